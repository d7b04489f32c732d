import PyProof.Rows.All
import Wide.All
import OpenK.AllK
import Wide.FinOn
import Lean
import PyProof.EqAt
import PyProof.EqKinds
import PyProof.TupleCall
import PySem.Challenge.RW_formcycle_k14_own_turns
set_option Elab.async false
set_option linter.all false
set_option maxRecDepth 100000
set_option maxRecDepth 1000000
set_option maxHeartbeats 0
namespace My
open PySem PySem.W
def topT (tb : String → Option Builtin) (p : Program) (w : World) (m : Nat) (ann : Option Value) : Nat → SharedT → Thread → Option SharedT
  | 0, _, _ => none
  | k + 1, s, t => match through t with
    | true => some s
    | false => match stepOk m ann t with
      | false => none
      | true => match stepT (denote tb) p w s t with
        | some (s', t') => topT tb p w m ann k s' t'
        | none => none
theorem topT_of {tb : String → Option Builtin} {p : Program} {w : World} {m : Nat} {ann : Option Value} : ∀ (k : Nat) {s r : SharedT} {t : Thread}, topT tb p w m ann k s t = some r → topRun tb p w m ann k s.abs t = some r.abs
  | 0, s, r, t, h => by cases h
  | k + 1, s, r, t, h => by
    unfold topT at h
    unfold topRun
    cases e : through t with
    | true =>
      rw [e] at h
      cases h
      rfl
    | false =>
      rw [e] at h
      dsimp only at h ⊢
      cases e2 : stepOk m ann t with
      | false => rw [e2] at h; cases h
      | true =>
        rw [e2] at h
        dsimp only at h ⊢
        cases e3 : stepT (denote tb) p w s t with
        | none => rw [e3] at h; cases h
        | some st =>
          obtain ⟨s', t'⟩ := st
          rw [e3] at h
          rw [stepT_spec e3]
          exact topT_of k h
def growT : List Obj → Nat → BT → BT
  | [], _, t => t
  | o :: os, n, t => growT os (n + 1) (t.ins n o)
noncomputable def bootT (w : World) (os : OsState) : SharedT := ⟨growT (boot_heap w.params).objs.toList 0 .nil, (boot_heap w.params).objs.size, (boot_heap w.params).life, Array.mk [], boot_drawn, boot_toks, os⟩
noncomputable def bootS (w : World) (os : OsState) : Shared := ⟨boot_heap w.params, Array.mk [], boot_drawn, boot_toks, os⟩
def stays (p : Program) (s₀ s₁ : Shared) : Bool := staticsOk (importedModules p.main.body) s₀.heap s₁.heap && namesBound p s₁.heap && gensDone s₁ && laidKept s₀.heap s₁.heap
theorem boot_abs : ∀ w os, (bootT w os).abs = bootS w os := fun w os => by kernel_rfl
end My
namespace My
open PySem PySem.W
def goT (tb : String → Option Builtin) (p : Program) (w : World) (m : Nat) (ann : Option Value) : Nat → SharedT → Thread → Option (SharedT × Thread)
  | 0, s, t => some (s, t)
  | k + 1, s, t => match through t with
    | true => none
    | false => match stepOk m ann t with
      | false => none
      | true => match stepT (denote tb) p w s t with
        | some (s', t') => goT tb p w m ann k s' t'
        | none => none
theorem goT_of {tb : String → Option Builtin} {p : Program} {w : World} {m : Nat} {ann : Option Value} : ∀ (k : Nat) {s s' : SharedT} {t t' : Thread}, goT tb p w m ann k s t = some (s', t') → topGo tb p w m ann k s.abs t = some (s'.abs, t')
  | 0, s, s', t, t', h => by cases h; rfl
  | k + 1, s, s', t, t', h => by
    unfold goT at h
    unfold topGo
    cases e : through t with
    | true => rw [e] at h; cases h
    | false =>
      rw [e] at h
      dsimp only at h ⊢
      cases e2 : stepOk m ann t with
      | false => rw [e2] at h; cases h
      | true =>
        rw [e2] at h
        dsimp only at h ⊢
        cases e3 : stepT (denote tb) p w s t with
        | none => rw [e3] at h; cases h
        | some st =>
          obtain ⟨s2, t2⟩ := st
          rw [e3] at h
          rw [stepT_spec e3]
          exact goT_of k h
theorem ends_ofR {p : Program} {w : World} {N : Nat} {α : Type} {F : Shared → α} {g : α} (e : opening p = plainProg p.main.scope.names) (hN : Nat.ble 600 N = true) (f : ∀ s, fenceModules? p s = some s)
    (h : ∀ os, ∃ r : Shared, topRun treeTable p w (bootS w os).heap.objs.size ((bootS w os).heap.nsMap mainGlobals "__annotations__") N (bootS w os) (topStub p) = some r ∧ stays p (bootS w os) r = true ∧ F r = g)
    (h0 : ∀ os, ((bootS w os).heap.isNs mainGlobals && (bootS w os).gens.size == 0) = true) : (openEnds treeTable p w N).map F = some g := by
  have hb := boot_open e hN f w
  unfold openEnds
  cases q : fencedOpening treeTable p w N with
  | none => rw [q] at hb; cases hb
  | some s =>
    rw [q] at hb
    have hs : s = bootS w s.os := by
      obtain ⟨a, b, c, d, o⟩ := s
      simp only [Option.map_some, Option.some.injEq, Prod.mk.injEq] at hb
      obtain ⟨rfl, rfl, rfl, rfl⟩ := hb
      rfl
    generalize s.os = o at hs
    subst hs
    show (topFrom treeTable p w N (bootS w o)).map F = some g
    unfold topFrom
    rw [h0 o]
    obtain ⟨r, hr, h1, h2⟩ := h o
    unfold stays at h1
    dsimp only
    rw [hr]
    show (match staticsOk (importedModules p.main.body) (bootS w o).heap r.heap && namesBound p r.heap && gensDone r && laidKept (bootS w o).heap r.heap with
      | true => some r
      | false => none).map F = some g
    rw [h1]
    exact congrArg some h2
theorem ends_of4 {p : Program} {w : World} {N : Nat} {α β : Type} {F : Shared → α} {G : Shared → β} {f' : α} {g' : β} {TL : OsState → Option SharedT} (e : opening p = plainProg p.main.scope.names) (hN : Nat.ble 600 N = true) (f : ∀ s, fenceModules? p s = some s)
    (hr : ∀ os r, TL os = some r → topRun treeTable p w (bootS w os).heap.objs.size ((bootS w os).heap.nsMap mainGlobals "__annotations__") N (bootS w os) (topStub p) = some r.abs)
    (h1 : ∀ os, (TL os).map (fun r => stays p (bootS w os) r.abs) = some true) (h2 : ∀ os, (TL os).map (fun r => F r.abs) = some f') (h3 : ∀ os, (TL os).map (fun r => G r.abs) = some g')
    (h0 : ∀ os, ((bootS w os).heap.isNs mainGlobals && (bootS w os).gens.size == 0) = true) : (openEnds treeTable p w N).map (fun s => (F s, G s)) = some (f', g') :=
  ends_ofR (F := fun s => (F s, G s)) e hN f (fun os => by
    have a := h1 os
    have b := h2 os
    have c := h3 os
    have d := hr os
    cases q : TL os with
    | none => rw [q] at a; cases a
    | some r =>
      rw [q] at a b c
      simp only [Option.map_some, Option.some.injEq] at a b c
      exact ⟨_, d r q, a, by rw [b, c]⟩) h0
end My
set_option maxRecDepth 1000000
set_option maxHeartbeats 0
namespace My
open PySem PySem.W
def tp (i : Nat) : Stmt := PySem.Challenge.pw_formcycle_k14_own_turns.main.body.getD i (.Pass ⟨0, 0, 0, 0⟩)
def fA (s : Stmt) : Arguments := match s with
  | .FunctionDef _ a _ _ _ _ _ _ _ _ => a
  | _ => ⟨[], [], none, [], [], none, []⟩
def fB (s : Stmt) : List Stmt := match s with
  | .FunctionDef _ _ b _ _ _ _ _ _ _ => b
  | _ => []
def fS (s : Stmt) : Scope := match s with
  | .FunctionDef _ _ _ _ _ _ c _ _ _ => c
  | _ => ⟨.function, [], false, false, []⟩
def inC (s : Stmt) (j : Nat) : Stmt := match s with
  | .ClassDef _ _ _ b _ _ _ _ _ _ _ => b.getD j (.Pass ⟨0, 0, 0, 0⟩)
  | _ => .Pass ⟨0, 0, 0, 0⟩
noncomputable section
abbrev O := Obj
abbrev sT (s : String) (t : Nat) : Value := .str (.ofString s) t
abbrev iZ (n : Int) : Value := .int n 0
abbrev dE (P : Params) (s : String) (t : Nat) (v : Value) : DictEntry := .mk (PyData.keyHash P (.ofString s)) (.str (.ofString s) t) v
abbrev fO (n q : String) (w : Stmt) (m : String) (t c : Nat) : Obj := .mk (.type "function") none (Data.func (FuncData.mk (.ofString n) (.ofString q) (fA w) (.stmts (fB w)) (fS w) 3 [] .none .none .none (.str (.ofString m) t) none (.ref c) .none 0)) #[]
abbrev tO (a : Array Value) : Obj := .mk (.type "tuple") none (Data.seq a) #[]
abbrev cO (a : Array Value) : Obj := .mk (.type "code") none (Data.fields a) #[]
abbrev nO (a : Array Value) : Obj := .mk .none none (Data.fields a) #[]
abbrev bO (a : Array Value) : Obj := .mk (.type "builtin_function_or_method") none (Data.fields a) #[]
abbrev Lf (o : Obj) : BT := .node o .nil .nil
abbrev Nd (o : Obj) (l r : BT) : BT := .node o l r
abbrev sF (t : Nat) : Value := .str (.ofString "/claim/cut.py") t
def tE : Obj := .mk (.type "tuple") none (Data.seq #[]) #[]
abbrev cF (n q : String) (a l k r t : Nat) : Obj := .mk (.type "code") none (Data.fields #[.str (.ofString n) a, .str (.ofString q) (a + 1), .str (.ofString "/claim/cut.py") (a + 2), .int l 0, .int k 0, .int 0 0, .int 0 0, .int 3 0, .ref r, .bool true, .int 181 0, .ref (r + 1), .none, .ref (r + 2), .ref (r + 3), .ref (r + 4), .int t 0, .int l 0, .str (.ofString "/claim/cut.py") (t + 1)]) #[]
abbrev rO (c l : Nat) (m : String) (t : Nat) : Obj := .mk (.type "frame") none Data.plain #[some (.ref c), some (.ref 3), some (.ref l), none, some (.str (.ofString m) t), none, some (.ref 0)]
abbrev sO (c : Nat) : Obj := .mk (.type "super") none (Data.fields #[.ref c, .ref c, .ref c]) #[]
abbrev dO (a : Array DictEntry) (n : Nat) : Obj := .mk (.type "dict") none (Data.dict a n) #[]
abbrev xO (n : String) (b c d e t u : Nat) : Obj := .mk (.type "type") none (Data.cls (ClassData.mk (.ofString n) [.ref b] [.ref c, .ref b, .type "ValueError", .type "Exception", .type "BaseException", .type "object"] d (.ofString n) true [] [] false none false)) #[some (.ref e), none, some (.str (.ofString n) t), some (.str (.ofString n) u), some (.builtin "ValueError.__new__"), some (.bool true)]
def o2:O:=.mk .none none (Data.dict #[]) #[]
def o3 (P:Params):O:=dO #[dE P "__name__" 165 (sT "law_formcycle_k14_own_turns" 443),dE P "__doc__" 166 .none,dE P "__package__" 167 .none,dE P "__loader__" 168 (.builtin "__main__.__loader__#opaque"),dE P "__spec__" 169 .none,dE P "__annotations__" 170 (.ref 6),dE P "__builtins__" 171 (.ref 4),dE P "__file__" 173 (sF 172),dE P "__cached__" 174 .none,dE P "FormError" 206 (.ref 24),dE P "NoTurn" 231 (.ref 44),dE P "NoShape" 256 (.ref 63),dE P "NoRoot" 281 (.ref 82),dE P "root" 292 (.ref 91),dE P "is_square" 300 (.ref 98),dE P "SAME" 307 (.ref 99),dE P "is_turn" 314 (.ref 106),dE P "check_turn" 321 (.ref 113),dE P "put_behind" 329 (.ref 120),dE P "back" 336 (.ref 127),dE P "measure" 345 (.ref 134),dE P "value" 355 (.ref 141),dE P "moved" 365 (.ref 148),dE P "middle" 375 (.ref 155),dE P "shape" 383 (.ref 162),dE P "check_bowl" 392 (.ref 169),dE P "stands_least" 402 (.ref 176),dE P "settled" 411 (.ref 183),dE P "turn_lower" 419 (.ref 190),dE P "own_turns" 425 (.ref 195),dE P "turns_of_least" 435 (.ref 202),dE P "turning_of_least" 442 (.ref 209),dE P "_law_cell" 452 (.ref 216),dE P "_law_wholes" 458 (.ref 221),dE P "_law_number" 465 (.ref 228),dE P "_law_least" 476 (.ref 235),dE P "_law_turn" 490 (.ref 242),dE P "_law_value" 502 (.ref 249),dE P "_law_moved" 515 (.ref 256),dE P "_law_then" 531 (.ref 263),dE P "_law_owns" 542 (.ref 270),dE P "_law_good" 548 (.ref 275),dE P "law" 554 (.ref 280)] 43
def o15:O:=tO #[.type "ValueError"]
def o23 (P:Params):O:=dO #[dE P "__module__" 196 (sT "formcycle.errors" 187),dE P "__firstlineno__" 200 (.int 2 199),dE P "__static_attributes__" 201 (.ref 22),dE P "__weakref__" 203 (.ref 25),dE P "__doc__" 204 .none] 3
def o24:O:=.mk (.type "type") none (Data.cls (ClassData.mk (.ofString "FormError") [.type "ValueError"] [.ref 24, .type "ValueError", .type "Exception", .type "BaseException", .type "object"] 23 (.ofString "FormError") Bool.true [] [.ref 44,.ref 63,.ref 82] Bool.false none Bool.false)) #[some (.ref 15), none, some (sT "FormError" 189), some (sT "FormError" 197), some (.builtin "ValueError.__new__"), some (.bool true)]
def o25:O:=.mk (.type "getset_descriptor") none (Data.fields #[sT "__weakref__" 202,.ref 24, .builtin "ExceptionGroup.__weakref__", .none]) #[]
def o28:O:=tO #[.ref 24]
def o37:O:=tO #[sT "self" 222,sT "turn" 223]
def o40:O:=cF "__init__" "NoTurn.__init__" 219 6 2 35 224
def o41:O:=fO "__init__" "NoTurn.__init__" (inC (tp 2) 0) "formcycle.errors" 187 40
def o42:O:=tO #[sT "turn" 227]
def o43 (P:Params):O:=dO #[dE P "__module__" 214 (sT "formcycle.errors" 187),dE P "__firstlineno__" 218 (.int 4 217),dE P "__init__" 226 (.ref 41),dE P "__static_attributes__" 228 (.ref 42),dE P "__doc__" 229 .none] 2
def o44:O:=xO "NoTurn" 24 44 43 28 207 215
def o47:O:=tO #[.ref 24]
def o56:O:=tO #[sT "self" 247,sT "form" 248]
def o59:O:=cF "__init__" "NoShape.__init__" 244 10 2 54 249
def o60:O:=fO "__init__" "NoShape.__init__" (inC (tp 3) 0) "formcycle.errors" 187 59
def o61:O:=tO #[sT "form" 252]
def o62 (P:Params):O:=dO #[dE P "__module__" 239 (sT "formcycle.errors" 187),dE P "__firstlineno__" 243 (.int 8 242),dE P "__init__" 251 (.ref 60),dE P "__static_attributes__" 253 (.ref 61),dE P "__doc__" 254 .none] 2
def o63:O:=xO "NoShape" 24 63 62 47 232 240
def o66:O:=tO #[.ref 24]
def o75:O:=tO #[sT "self" 272,sT "number" 273]
def o78:O:=cF "__init__" "NoRoot.__init__" 269 14 2 73 274
def o79:O:=fO "__init__" "NoRoot.__init__" (inC (tp 4) 0) "formcycle.errors" 187 78
def o80:O:=tO #[sT "number" 277]
def o81 (P:Params):O:=dO #[dE P "__module__" 264 (sT "formcycle.errors" 187),dE P "__firstlineno__" 268 (.int 12 267),dE P "__init__" 276 (.ref 79),dE P "__static_attributes__" 278 (.ref 80),dE P "__doc__" 279 .none] 2
def o82:O:=xO "NoRoot" 24 82 81 66 257 265
def o87:O:=tO #[sT "number" 287,sT "guess" 288,sT "better" 289]
def o90:O:=cF "root" "root" 284 17 1 85 290
def o91:O:=fO "root" "root" (tp 6) "formcycle.wholes" 282 90
def o94:O:=tO #[sT "number" 296,sT "side" 297]
def o97:O:=cF "is_square" "is_square" 293 28 1 92 298
def o98:O:=fO "is_square" "is_square" (tp 7) "formcycle.wholes" 282 97
def o99:O:=tO #[.int 1 303, .int 0 304, .int 0 305, .int 1 306]
def o102:O:=tO #[sT "turn" 311]
def o105:O:=cF "is_turn" "is_turn" 308 35 1 100 312
def o106:O:=fO "is_turn" "is_turn" (tp 10) "formcycle.turns" 301 105
def o109:O:=tO #[sT "turn" 318]
def o112:O:=cF "check_turn" "check_turn" 315 37 1 107 319
def o113:O:=fO "check_turn" "check_turn" (tp 11) "formcycle.turns" 301 112
def o116:O:=tO #[sT "one" 325,sT "other" 326]
def o119:O:=cF "put_behind" "put_behind" 322 40 2 114 327
def o120:O:=fO "put_behind" "put_behind" (tp 12) "formcycle.turns" 301 119
def o123:O:=tO #[sT "turn" 333]
def o126:O:=cF "back" "back" 330 42 1 121 334
def o127:O:=fO "back" "back" (tp 13) "formcycle.turns" 301 126
def o130:O:=tO #[sT "form" 342]
def o133:O:=cF "measure" "measure" 339 46 1 128 343
def o134:O:=fO "measure" "measure" (tp 15) "formcycle.forms" 337 133
def o137:O:=tO #[sT "form" 349,sT "point" 350,sT "x" 351,sT "y" 352]
def o140:O:=cF "value" "value" 346 48 2 135 353
def o141:O:=fO "value" "value" (tp 16) "formcycle.forms" 337 140
def o144:O:=tO #[sT "form" 359,sT "turn" 360,sT "left" 361,sT "right" 362]
def o147:O:=cF "moved" "moved" 356 52 2 142 363
def o148:O:=fO "moved" "moved" (tp 17) "formcycle.forms" 337 147
def o151:O:=tO #[sT "form" 369,sT "left" 370,sT "right" 371,sT "crossed" 372]
def o154:O:=cF "middle" "middle" 366 57 3 149 373
def o155:O:=fO "middle" "middle" (tp 18) "formcycle.forms" 337 154
def o158:O:=tO #[sT "form" 379,sT "number" 380]
def o161:O:=cF "shape" "shape" 376 60 1 156 381
def o162:O:=fO "shape" "shape" (tp 19) "formcycle.forms" 337 161
def o165:O:=tO #[sT "form" 389]
def o168:O:=cF "check_bowl" "check_bowl" 386 70 1 163 390
def o169:O:=fO "check_bowl" "check_bowl" (tp 21) "formcycle.bowls" 384 168
def o172:O:=tO #[sT "form" 396,sT "a" 397,sT "b" 398,sT "c" 399]
def o175:O:=cF "stands_least" "stands_least" 393 73 1 170 400
def o176:O:=fO "stands_least" "stands_least" (tp 22) "formcycle.bowls" 384 175
def o179:O:=tO #[sT "form" 406,sT "turn" 407,sT "lowering" 408]
def o182:O:=cF "settled" "settled" 403 80 1 177 409
def o183:O:=fO "settled" "settled" (tp 23) "formcycle.bowls" 384 182
def o186:O:=tO #[sT "form" 415,sT "often" 416]
def o189:O:=cF "turn_lower" "turn_lower" 412 88 1 184 417
def o190:O:=fO "turn_lower" "turn_lower" (tp 24) "formcycle.bowls" 384 189
def o194:O:=cO #[sT "own_turns" 420,sT "own_turns" 421, sF 422,iZ 93,iZ 1,iZ 0,iZ 0,iZ 3,.ref 191, .bool true,iZ 181,.ref 192, .none, .none, .none,.ref 193,iZ 423,iZ 93, sF 424]
def o195:O:=fO "own_turns" "own_turns" (tp 25) "formcycle.bowls" 384 194
def o198:O:=tO #[sT "form" 429,sT "turning" 430,sT "turns" 431,sT "came" 432]
def o201:O:=cF "turns_of_least" "turns_of_least" 426 98 1 196 433
def o202:O:=fO "turns_of_least" "turns_of_least" (tp 26) "formcycle.bowls" 384 201
def o205:O:=tO #[sT "form" 439]
def o208:O:=cF "turning_of_least" "turning_of_least" 436 106 1 203 440
def o209:O:=fO "turning_of_least" "turning_of_least" (tp 27) "formcycle.bowls" 384 208
def o212:O:=tO #[sT "_law_script" 448,sT "_law_k" 449]
def o215:O:=cF "_law_cell" "_law_cell" 445 113 2 210 450
def o216:O:=fO "_law_cell" "_law_cell" (tp 29) "law_formcycle_k14_own_turns" 443 215
def o220:O:=cO #[sT "_law_wholes" 453,sT "_law_wholes" 454, sF 455,iZ 117,iZ 2,iZ 0,iZ 0,iZ 3,.ref 217, .bool true,iZ 181,.ref 218, .none, .none, .none,.ref 219,iZ 456,iZ 117, sF 457]
def o221:O:=fO "_law_wholes" "_law_wholes" (tp 30) "law_formcycle_k14_own_turns" 443 220
def o224:O:=tO #[sT "_law_cell_here" 462]
def o227:O:=cF "_law_number" "_law_number" 459 121 1 222 463
def o228:O:=fO "_law_number" "_law_number" (tp 31) "law_formcycle_k14_own_turns" 443 227
def o231:O:=tO #[sT "_law_cells" 469,sT "_law_a" 470,sT "_law_b" 471,sT "_law_c" 472,sT "_law_kind" 473]
def o234:O:=cF "_law_least" "_law_least" 466 125 1 229 474
def o235:O:=fO "_law_least" "_law_least" (tp 32) "law_formcycle_k14_own_turns" 443 234
def o238:O:=tO #[sT "_law_first" 480,sT "_law_cells" 481,sT "_law_p" 482,sT "_law_q" 483,sT "_law_r" 484,sT "_law_s" 485,sT "_law_cell_here" 486,sT "_law_k" 487]
def o241:O:=cF "_law_turn" "_law_turn" 477 141 2 236 488
def o242:O:=fO "_law_turn" "_law_turn" (tp 33) "law_formcycle_k14_own_turns" 443 241
def o245:O:=tO #[sT "_law_form" 494,sT "_law_x" 495,sT "_law_y" 496,sT "_law_a" 497,sT "_law_b" 498,sT "_law_c" 499]
def o248:O:=cF "_law_value" "_law_value" 491 147 3 243 500
def o249:O:=fO "_law_value" "_law_value" (tp 34) "law_formcycle_k14_own_turns" 443 248
def o252:O:=tO #[sT "_law_form" 506,sT "_law_turn_here" 507,sT "_law_p" 508,sT "_law_q" 509,sT "_law_r" 510,sT "_law_s" 511,sT "_law_middle" 512]
def o255:O:=cF "_law_moved" "_law_moved" 503 150 2 250 513
def o256:O:=fO "_law_moved" "_law_moved" (tp 35) "law_formcycle_k14_own_turns" 443 255
def o259:O:=tO #[sT "_law_one" 519,sT "_law_other" 520,sT "_law_p" 521,sT "_law_q" 522,sT "_law_r" 523,sT "_law_s" 524,sT "_law_t" 525,sT "_law_u" 526,sT "_law_v" 527,sT "_law_w" 528]
def o262:O:=cF "_law_then" "_law_then" 516 155 2 257 529
def o263:O:=fO "_law_then" "_law_then" (tp 36) "law_formcycle_k14_own_turns" 443 262
def o266:O:=tO #[sT "_law_least_here" 535,sT "_law_a" 536,sT "_law_b" 537,sT "_law_c" 538,sT "_law_owns_here" 539]
def o269:O:=cF "_law_owns" "_law_owns" 532 159 1 264 540
def o270:O:=fO "_law_owns" "_law_owns" (tp 37) "law_formcycle_k14_own_turns" 443 269
def o274:O:=cO #[sT "_law_good" 543,sT "_law_good" 544, sF 545,iZ 167,iZ 2,iZ 0,iZ 0,iZ 3,.ref 271, .bool true,iZ 181,.ref 272, .none, .none, .none,.ref 273,iZ 546,iZ 167, sF 547]
def o275:O:=fO "_law_good" "_law_good" (tp 38) "law_formcycle_k14_own_turns" 443 274
def o279:O:=cO #[sT "law" 549,sT "law" 550, sF 551,iZ 179,iZ 1,iZ 0,iZ 0,iZ 3,.ref 276, .bool true,iZ 181,.ref 277, .none, .none, .none,.ref 278,iZ 552,iZ 179, sF 553]
def o280:O:=fO "law" "law" (tp 39) "law_formcycle_k14_own_turns" 443 279
def KK : Params → Frag :=
fun P => (nat_lit 2,o2)::(nat_lit 3,o3 P)::(nat_lit 15,o15)::(nat_lit 22,tE)::(nat_lit 23,o23 P)::(nat_lit 24,o24)::(nat_lit 25,o25)::(nat_lit 28,o28)::(nat_lit 35,tE)::(nat_lit 37,o37)::(nat_lit 38,tE)::(nat_lit 40,o40)::(nat_lit 41,o41)::(nat_lit 42,o42)::(nat_lit 43,o43 P)::(nat_lit 44,o44)::(nat_lit 47,o47)::(nat_lit 54,tE)::(nat_lit 56,o56)::(nat_lit 57,tE)::(nat_lit 59,o59)::(nat_lit 60,o60)::(nat_lit 61,o61)::(nat_lit 62,o62 P)::(nat_lit 63,o63)::(nat_lit 66,o66)::(nat_lit 73,tE)::(nat_lit 75,o75)::(nat_lit 76,tE)::(nat_lit 78,o78)::(nat_lit 79,o79)::(nat_lit 80,o80)::(nat_lit 81,o81 P)::(nat_lit 82,o82)::(nat_lit 85,tE)::(nat_lit 87,o87)::(nat_lit 88,tE)::(nat_lit 90,o90)::(nat_lit 91,o91)::(nat_lit 92,tE)::(nat_lit 94,o94)::(nat_lit 95,tE)::(nat_lit 97,o97)::(nat_lit 98,o98)::(nat_lit 99,o99)::(nat_lit 100,tE)::(nat_lit 102,o102)::(nat_lit 103,tE)::(nat_lit 105,o105)::(nat_lit 106,o106)::(nat_lit 107,tE)::(nat_lit 109,o109)::(nat_lit 110,tE)::(nat_lit 112,o112)::(nat_lit 113,o113)::(nat_lit 114,tE)::(nat_lit 116,o116)::(nat_lit 117,tE)::(nat_lit 119,o119)::(nat_lit 120,o120)::(nat_lit 121,tE)::(nat_lit 123,o123)::(nat_lit 124,tE)::(nat_lit 126,o126)::(nat_lit 127,o127)::(nat_lit 128,tE)::(nat_lit 130,o130)::(nat_lit 131,tE)::(nat_lit 133,o133)::(nat_lit 134,o134)::(nat_lit 135,tE)::(nat_lit 137,o137)::(nat_lit 138,tE)::(nat_lit 140,o140)::(nat_lit 141,o141)::(nat_lit 142,tE)::(nat_lit 144,o144)::(nat_lit 145,tE)::(nat_lit 147,o147)::(nat_lit 148,o148)::(nat_lit 149,tE)::(nat_lit 151,o151)::(nat_lit 152,tE)::(nat_lit 154,o154)::(nat_lit 155,o155)::(nat_lit 156,tE)::(nat_lit 158,o158)::(nat_lit 159,tE)::(nat_lit 161,o161)::(nat_lit 162,o162)::(nat_lit 163,tE)::(nat_lit 165,o165)::(nat_lit 166,tE)::(nat_lit 168,o168)::(nat_lit 169,o169)::(nat_lit 170,tE)::(nat_lit 172,o172)::(nat_lit 173,tE)::(nat_lit 175,o175)::(nat_lit 176,o176)::(nat_lit 177,tE)::(nat_lit 179,o179)::(nat_lit 180,tE)::(nat_lit 182,o182)::(nat_lit 183,o183)::(nat_lit 184,tE)::(nat_lit 186,o186)::(nat_lit 187,tE)::(nat_lit 189,o189)::(nat_lit 190,o190)::(nat_lit 191,tE)::(nat_lit 194,o194)::(nat_lit 195,o195)::(nat_lit 196,tE)::(nat_lit 198,o198)::(nat_lit 199,tE)::(nat_lit 201,o201)::(nat_lit 202,o202)::(nat_lit 203,tE)::(nat_lit 205,o205)::(nat_lit 206,tE)::(nat_lit 208,o208)::(nat_lit 209,o209)::(nat_lit 210,tE)::(nat_lit 212,o212)::(nat_lit 213,tE)::(nat_lit 215,o215)::(nat_lit 216,o216)::(nat_lit 217,tE)::(nat_lit 220,o220)::(nat_lit 221,o221)::(nat_lit 222,tE)::(nat_lit 224,o224)::(nat_lit 225,tE)::(nat_lit 227,o227)::(nat_lit 228,o228)::(nat_lit 229,tE)::(nat_lit 231,o231)::(nat_lit 232,tE)::(nat_lit 234,o234)::(nat_lit 235,o235)::(nat_lit 236,tE)::(nat_lit 238,o238)::(nat_lit 239,tE)::(nat_lit 241,o241)::(nat_lit 242,o242)::(nat_lit 243,tE)::(nat_lit 245,o245)::(nat_lit 246,tE)::(nat_lit 248,o248)::(nat_lit 249,o249)::(nat_lit 250,tE)::(nat_lit 252,o252)::(nat_lit 253,tE)::(nat_lit 255,o255)::(nat_lit 256,o256)::(nat_lit 257,tE)::(nat_lit 259,o259)::(nat_lit 260,tE)::(nat_lit 262,o262)::(nat_lit 263,o263)::(nat_lit 264,tE)::(nat_lit 266,o266)::(nat_lit 267,tE)::(nat_lit 269,o269)::(nat_lit 270,o270)::(nat_lit 271,tE)::(nat_lit 274,o274)::(nat_lit 275,o275)::(nat_lit 276,tE)::(nat_lit 279,o279)::(nat_lit 280,o280)::[]
def c0_12:O:=nO #[]
def c0_13:O:=cO #[sT "<module>" 182,sT "<module>" 183, sF 184,iZ 1,iZ 0,iZ 0,iZ 0,iZ 0,.ref 11, .bool false,iZ 181,.ref 12, .none, .none, .none, .none,iZ 185,iZ 1, sF 186]
def c0_14:O:=rO 13 3 "__main__" 164
def c28_3 (P:Params):O:=dO #[dE P "__name__" 165 (sT "formcycle.bowls" 384),dE P "__doc__" 166 .none,dE P "__package__" 167 .none,dE P "__loader__" 168 (.builtin "__main__.__loader__#opaque"),dE P "__spec__" 169 .none,dE P "__annotations__" 170 (.ref 6),dE P "__builtins__" 171 (.ref 4),dE P "__file__" 173 (sF 172),dE P "__cached__" 174 .none,dE P "FormError" 206 (.ref 24),dE P "NoTurn" 231 (.ref 44),dE P "NoShape" 256 (.ref 63),dE P "NoRoot" 281 (.ref 82),dE P "root" 292 (.ref 91),dE P "is_square" 300 (.ref 98),dE P "SAME" 307 (.ref 99),dE P "is_turn" 314 (.ref 106),dE P "check_turn" 321 (.ref 113),dE P "put_behind" 329 (.ref 120),dE P "back" 336 (.ref 127),dE P "measure" 345 (.ref 134),dE P "value" 355 (.ref 141),dE P "moved" 365 (.ref 148),dE P "middle" 375 (.ref 155),dE P "shape" 383 (.ref 162),dE P "check_bowl" 392 (.ref 169),dE P "stands_least" 402 (.ref 176),dE P "settled" 411 (.ref 183),dE P "turn_lower" 419 (.ref 190),dE P "own_turns" 425 (.ref 195),dE P "turns_of_least" 435 (.ref 202),dE P "turning_of_least" 442 (.ref 209)] 32
def c28_12:O:=nO #[iZ 2,iZ 0,.ref 20,iZ 4,iZ 0,.ref 33,iZ 8,iZ 0,.ref 52,iZ 12,iZ 0,.ref 71,iZ 17,iZ 0,.ref 90,iZ 28,iZ 0,.ref 97,iZ 35,iZ 0,.ref 105,iZ 37,iZ 0,.ref 112,iZ 40,iZ 0,.ref 119,iZ 42,iZ 0,.ref 126,iZ 46,iZ 0,.ref 133,iZ 48,iZ 0,.ref 140,iZ 52,iZ 0,.ref 147,iZ 57,iZ 0,.ref 154,iZ 60,iZ 0,.ref 161,iZ 70,iZ 0,.ref 168,iZ 73,iZ 0,.ref 175,iZ 80,iZ 0,.ref 182,iZ 88,iZ 0,.ref 189,iZ 93,iZ 0,.ref 194,iZ 98,iZ 0,.ref 201,iZ 106,iZ 0,.ref 208]
def c28_16:O:=bO #[.builtin "type.__prepare__", .type "type"]
def c28_17 (P:Params):O:=dO #[dE P "__module__" 196 (sT "formcycle.errors" 187),dE P "__qualname__" 198 (sT "FormError" 197),dE P "__firstlineno__" 200 (.int 2 199),dE P "__static_attributes__" 201 (.ref 22)] 4
def c28_20:O:=cO #[sT "FormError" 191,sT "FormError" 192, sF 193,iZ 2,iZ 0,iZ 0,iZ 0,iZ 0,.ref 18, .bool false,iZ 181,.ref 19, .none, .none, .none, .none,iZ 194,iZ 2, sF 195]
def c28_21:O:=rO 20 17 "formcycle.errors" 187
def c28_26:O:=sO 24
def c28_27:O:=bO #[.builtin "object.__init_subclass__",.ref 24]
def c28_30 (P:Params):O:=dO #[dE P "__module__" 214 (sT "formcycle.errors" 187),dE P "__qualname__" 216 (sT "NoTurn" 215),dE P "__firstlineno__" 218 (.int 4 217),dE P "__init__" 226 (.ref 41),dE P "__static_attributes__" 228 (.ref 42)] 5
def c28_32:O:=nO #[iZ 6,iZ 4,.ref 40]
def c28_33:O:=cO #[sT "NoTurn" 209,sT "NoTurn" 210, sF 211,iZ 4,iZ 0,iZ 0,iZ 0,iZ 0,.ref 31, .bool false,iZ 181,.ref 32, .none, .none, .none, .none,iZ 212,iZ 4, sF 213]
def c28_34:O:=rO 33 30 "formcycle.errors" 187
def c28_39:O:=.mk .none none (Data.func (FuncData.mk (.ofString "__init__") (.ofString "NoTurn.__init__") (fA (inC (tp 2) 0)) (.stmts (fB (inC (tp 2) 0))) (fS (inC (tp 2) 0)) 0 [] .none .none .none .none none .none .none 0)) #[]
def c28_45:O:=sO 44
def c28_46:O:=bO #[.builtin "object.__init_subclass__",.ref 44]
def c28_49 (P:Params):O:=dO #[dE P "__module__" 239 (sT "formcycle.errors" 187),dE P "__qualname__" 241 (sT "NoShape" 240),dE P "__firstlineno__" 243 (.int 8 242),dE P "__init__" 251 (.ref 60),dE P "__static_attributes__" 253 (.ref 61)] 5
def c28_51:O:=nO #[iZ 10,iZ 4,.ref 59]
def c28_52:O:=cO #[sT "NoShape" 234,sT "NoShape" 235, sF 236,iZ 8,iZ 0,iZ 0,iZ 0,iZ 0,.ref 50, .bool false,iZ 181,.ref 51, .none, .none, .none, .none,iZ 237,iZ 8, sF 238]
def c28_53:O:=rO 52 49 "formcycle.errors" 187
def c28_58:O:=.mk .none none (Data.func (FuncData.mk (.ofString "__init__") (.ofString "NoShape.__init__") (fA (inC (tp 3) 0)) (.stmts (fB (inC (tp 3) 0))) (fS (inC (tp 3) 0)) 0 [] .none .none .none .none none .none .none 0)) #[]
def c28_64:O:=sO 63
def c28_65:O:=bO #[.builtin "object.__init_subclass__",.ref 63]
def c28_68 (P:Params):O:=dO #[dE P "__module__" 264 (sT "formcycle.errors" 187),dE P "__qualname__" 266 (sT "NoRoot" 265),dE P "__firstlineno__" 268 (.int 12 267),dE P "__init__" 276 (.ref 79),dE P "__static_attributes__" 278 (.ref 80)] 5
def c28_70:O:=nO #[iZ 14,iZ 4,.ref 78]
def c28_71:O:=cO #[sT "NoRoot" 259,sT "NoRoot" 260, sF 261,iZ 12,iZ 0,iZ 0,iZ 0,iZ 0,.ref 69, .bool false,iZ 181,.ref 70, .none, .none, .none, .none,iZ 262,iZ 12, sF 263]
def c28_72:O:=rO 71 68 "formcycle.errors" 187
def c28_77:O:=.mk .none none (Data.func (FuncData.mk (.ofString "__init__") (.ofString "NoRoot.__init__") (fA (inC (tp 4) 0)) (.stmts (fB (inC (tp 4) 0))) (fS (inC (tp 4) 0)) 0 [] .none .none .none .none none .none .none 0)) #[]
def c28_83:O:=sO 82
def c28_84:O:=bO #[.builtin "object.__init_subclass__",.ref 82]
def c28_89:O:=.mk .none none (Data.func (FuncData.mk (.ofString "root") (.ofString "root") (fA (tp 6)) (.stmts (fB (tp 6))) (fS (tp 6)) 0 [] .none .none .none .none none .none .none 0)) #[]
def c28_96:O:=.mk .none none (Data.func (FuncData.mk (.ofString "is_square") (.ofString "is_square") (fA (tp 7)) (.stmts (fB (tp 7))) (fS (tp 7)) 0 [] .none .none .none .none none .none .none 0)) #[]
def c28_104:O:=.mk .none none (Data.func (FuncData.mk (.ofString "is_turn") (.ofString "is_turn") (fA (tp 10)) (.stmts (fB (tp 10))) (fS (tp 10)) 0 [] .none .none .none .none none .none .none 0)) #[]
def c28_111:O:=.mk .none none (Data.func (FuncData.mk (.ofString "check_turn") (.ofString "check_turn") (fA (tp 11)) (.stmts (fB (tp 11))) (fS (tp 11)) 0 [] .none .none .none .none none .none .none 0)) #[]
def c28_118:O:=.mk .none none (Data.func (FuncData.mk (.ofString "put_behind") (.ofString "put_behind") (fA (tp 12)) (.stmts (fB (tp 12))) (fS (tp 12)) 0 [] .none .none .none .none none .none .none 0)) #[]
def c28_125:O:=.mk .none none (Data.func (FuncData.mk (.ofString "back") (.ofString "back") (fA (tp 13)) (.stmts (fB (tp 13))) (fS (tp 13)) 0 [] .none .none .none .none none .none .none 0)) #[]
def c28_132:O:=.mk .none none (Data.func (FuncData.mk (.ofString "measure") (.ofString "measure") (fA (tp 15)) (.stmts (fB (tp 15))) (fS (tp 15)) 0 [] .none .none .none .none none .none .none 0)) #[]
def c28_139:O:=.mk .none none (Data.func (FuncData.mk (.ofString "value") (.ofString "value") (fA (tp 16)) (.stmts (fB (tp 16))) (fS (tp 16)) 0 [] .none .none .none .none none .none .none 0)) #[]
def c28_146:O:=.mk .none none (Data.func (FuncData.mk (.ofString "moved") (.ofString "moved") (fA (tp 17)) (.stmts (fB (tp 17))) (fS (tp 17)) 0 [] .none .none .none .none none .none .none 0)) #[]
def c28_153:O:=.mk .none none (Data.func (FuncData.mk (.ofString "middle") (.ofString "middle") (fA (tp 18)) (.stmts (fB (tp 18))) (fS (tp 18)) 0 [] .none .none .none .none none .none .none 0)) #[]
def c28_160:O:=.mk .none none (Data.func (FuncData.mk (.ofString "shape") (.ofString "shape") (fA (tp 19)) (.stmts (fB (tp 19))) (fS (tp 19)) 0 [] .none .none .none .none none .none .none 0)) #[]
def c28_167:O:=.mk .none none (Data.func (FuncData.mk (.ofString "check_bowl") (.ofString "check_bowl") (fA (tp 21)) (.stmts (fB (tp 21))) (fS (tp 21)) 0 [] .none .none .none .none none .none .none 0)) #[]
def c28_174:O:=.mk .none none (Data.func (FuncData.mk (.ofString "stands_least") (.ofString "stands_least") (fA (tp 22)) (.stmts (fB (tp 22))) (fS (tp 22)) 0 [] .none .none .none .none none .none .none 0)) #[]
def c28_181:O:=.mk .none none (Data.func (FuncData.mk (.ofString "settled") (.ofString "settled") (fA (tp 23)) (.stmts (fB (tp 23))) (fS (tp 23)) 0 [] .none .none .none .none none .none .none 0)) #[]
def c28_188:O:=.mk .none none (Data.func (FuncData.mk (.ofString "turn_lower") (.ofString "turn_lower") (fA (tp 24)) (.stmts (fB (tp 24))) (fS (tp 24)) 0 [] .none .none .none .none none .none .none 0)) #[]
def c28_193:O:=.mk .none none (Data.func (FuncData.mk (.ofString "own_turns") (.ofString "own_turns") (fA (tp 25)) (.stmts (fB (tp 25))) (fS (tp 25)) 0 [] .none .none .none .none none .none .none 0)) #[]
def c28_200:O:=.mk .none none (Data.func (FuncData.mk (.ofString "turns_of_least") (.ofString "turns_of_least") (fA (tp 26)) (.stmts (fB (tp 26))) (fS (tp 26)) 0 [] .none .none .none .none none .none .none 0)) #[]
def c28_207:O:=.mk .none none (Data.func (FuncData.mk (.ofString "turning_of_least") (.ofString "turning_of_least") (fA (tp 27)) (.stmts (fB (tp 27))) (fS (tp 27)) 0 [] .none .none .none .none none .none .none 0)) #[]
def tr0 (P : Params) : BT := Nd (boot_o_0 P) (Nd (boot_o_1 P) (Nd (boot_o_3 P) (Lf (boot_o_7 P)) (Lf tE)) (Nd (boot_o_5 P) (Lf (boot_o_9 P)) (Lf c0_13))) (Nd (boot_o_2 P) (Nd (boot_o_4 P) (Lf (boot_o_8 P)) (Lf c0_12)) (Nd (boot_o_6 P) (Lf (boot_o_10 P)) (Lf c0_14)))
def St0 (w : World) (os : OsState) : SharedT := ⟨tr0 w.params, 15, Life.mk [] [] [] 0 [] [] Bool.false #[] [] 0 Bool.false Bool.false Bool.false 0 [2000, 10, 10] Bool.false 0 Bool.true [] [] 0 Bool.false, Array.mk [], Drawn.mk 0 0 0 0, 187, os⟩
def ps0 : Pos := ⟨0, 0, 0, 0⟩
def tr28 (P : Params) : BT := Nd (boot_o_0 P) (Nd (boot_o_1 P) (Nd (c28_3 P) (Nd (boot_o_7 P) (Nd o15 (Nd tE (Nd o63 (Lf o127) (Lf tE)) (Nd tE (Lf tE) .nil)) (Nd o47 (Nd o79 (Lf c0_12) (Lf c28_207)) (Nd c28_111 (Lf o175) .nil))) (Nd (o23 P) (Nd c28_39 (Nd c28_71 (Lf tE) (Lf tE)) (Nd tE (Lf c28_167) .nil)) (Nd c0_12 (Nd o87 (Lf o151) .nil) (Nd o119 (Lf o183) .nil)))) (Nd tE (Nd c0_12 (Nd tE (Nd c28_16 (Lf tE) (Lf o195)) (Nd o99 (Lf tE) .nil)) (Nd c28_51 (Nd c28_83 (Lf o147) .nil) (Nd c0_12 (Lf o179) .nil))) (Nd c28_27 (Nd (o43 P) (Nd o75 (Lf c28_139) (Lf tE)) (Nd tE (Lf c0_12) .nil)) (Nd o59 (Nd o91 (Lf o155) .nil) (Nd o123 (Lf tE) .nil))))) (Nd (boot_o_5 P) (Nd (boot_o_9 P) (Nd (c28_17 P) (Nd c28_33 (Nd c28_65 (Lf c0_12) (Lf c28_193)) (Nd o97 (Lf o161) .nil)) (Nd (c28_49 P) (Nd (o81 P) (Lf tE) (Lf o209)) (Nd o113 (Lf tE) .nil))) (Nd o25 (Nd o41 (Nd tE (Lf o137) (Lf o201)) (Nd o105 (Lf o169) .nil)) (Nd tE (Nd c28_89 (Lf c28_153) .nil) (Nd tE (Lf c0_12) .nil)))) (Nd c0_13 (Nd c28_21 (Nd o37 (Nd tE (Lf o133) (Lf c0_12)) (Nd c0_12 (Lf o165) .nil)) (Nd c28_53 (Nd tE (Lf tE) .nil) (Nd tE (Lf c28_181) .nil))) (Nd c28_16 (Nd c28_45 (Nd c28_77 (Lf o141) (Lf o205)) (Nd o109 (Lf tE) .nil)) (Nd o61 (Nd c0_12 (Lf c0_12) .nil) (Nd c28_125 (Lf o189) .nil)))))) (Nd (boot_o_2 P) (Nd (boot_o_4 P) (Nd (boot_o_8 P) (Nd c28_16 (Nd c28_32 (Nd c28_64 (Lf tE) (Lf c0_12)) (Nd c28_96 (Lf c28_160) .nil)) (Nd c28_16 (Nd o80 (Lf o144) (Lf o208)) (Nd o112 (Lf o176) .nil))) (Nd o24 (Nd o40 (Nd c28_72 (Lf c0_12) (Lf c28_200)) (Nd c28_104 (Lf o168) .nil)) (Nd o56 (Nd tE (Lf tE) .nil) (Nd o120 (Lf tE) .nil)))) (Nd c28_12 (Nd c28_20 (Nd c0_12 (Nd (c28_68 P) (Lf c28_132) (Lf tE)) (Nd tE (Lf c0_12) .nil)) (Nd c28_52 (Nd c28_84 (Lf o148) .nil) (Nd o116 (Lf tE) .nil))) (Nd o28 (Nd o44 (Nd tE (Lf o140) (Lf c0_12)) (Nd c0_12 (Lf o172) .nil)) (Nd o60 (Nd tE (Lf tE) .nil) (Nd tE (Lf c28_188) .nil))))) (Nd (boot_o_6 P) (Nd (boot_o_10 P) (Nd tE (Nd c28_34 (Nd o66 (Lf o130) (Lf o194)) (Nd o98 (Lf o162) .nil)) (Nd tE (Nd o82 (Lf c28_146) .nil) (Nd tE (Lf c0_12) .nil))) (Nd c28_26 (Nd o42 (Nd c0_12 (Lf tE) (Lf o202)) (Nd o106 (Lf tE) .nil)) (Nd c28_58 (Nd o90 (Lf o154) .nil) (Nd c0_12 (Lf o186) .nil)))) (Nd c0_14 (Nd tE (Nd tE (Nd c28_70 (Lf o134) (Lf o198)) (Nd o102 (Lf tE) .nil)) (Nd tE (Nd c0_12 (Lf c0_12) .nil) (Nd c28_118 (Lf o182) .nil))) (Nd (c28_30 P) (Nd c28_46 (Nd o78 (Lf tE) (Lf tE)) (Nd tE (Lf c28_174) .nil)) (Nd (o62 P) (Nd o94 (Lf o158) .nil) (Nd o126 (Lf o190) .nil))))))
def St28 (w : World) (os : OsState) : SharedT := ⟨tr28 w.params, 210, Life.mk [] [] [] 0 [] [] Bool.false #[] [] 0 Bool.false Bool.false Bool.false 0 [2000, 10, 10] Bool.false 0 Bool.true [] [] 0 Bool.false, Array.mk [], Drawn.mk 0 0 0 0, 443, os⟩
def ps28 : Pos := ⟨106, 0, 111, 25⟩
end
noncomputable def vw : Program := { PySem.Challenge.pw_formcycle_k14_own_turns with main := { PySem.Challenge.pw_formcycle_k14_own_turns.main with body := [tp 1, tp 2, tp 3, tp 4, tp 6, tp 7, tp 9, tp 10, tp 11, tp 12, tp 13, tp 15, tp 16, tp 17, tp 18, tp 19, tp 21, tp 22, tp 23, tp 24, tp 25, tp 26, tp 27, tp 29, tp 30, tp 31, tp 32, tp 33, tp 34, tp 35, tp 36, tp 37, tp 38, tp 39] } }
def asK : List Nat := [2, 3, 15, 22, 23, 24, 25, 28, 35, 37, 38, 40, 41, 42, 43, 44, 47, 54, 56, 57, 59, 60, 61, 62, 63, 66, 73, 75, 76, 78, 79, 80, 81, 82, 85, 87, 88, 90, 91, 92, 94, 95, 97, 98, 99, 100, 102, 103, 105, 106, 107, 109, 110, 112, 113, 114, 116, 117, 119, 120, 121, 123, 124, 126, 127, 128, 130, 131, 133, 134, 135, 137, 138, 140, 141, 142, 144, 145, 147, 148, 149, 151, 152, 154, 155, 156, 158, 159, 161, 162, 163, 165, 166, 168, 169, 170, 172, 173, 175, 176, 177, 179, 180, 182, 183, 184, 186, 187, 189, 190, 191, 194, 195, 196, 198, 199, 201, 202, 203, 205, 206, 208, 209, 210, 212, 213, 215, 216, 217, 220, 221, 222, 224, 225, 227, 228, 229, 231, 232, 234, 235, 236, 238, 239, 241, 242, 243, 245, 246, 248, 249, 250, 252, 253, 255, 256, 257, 259, 260, 262, 263, 264, 266, 267, 269, 270, 271, 274, 275, 276, 279, 280]
noncomputable def bE : List Stmt := behindTheImports PySem.Challenge.rw_formcycle_k14_own_turns.row.prog
noncomputable def ev : Env := { scope := PySem.Challenge.rw_formcycle_k14_own_turns.row.prog.main.scope, locals := mainNs, globals := mainNs, cells := [], code := .ref 13, frame := some 14 }
noncomputable def cc : Code := .body bE ev
def qq : Pos := .mk 0 0 0 0
def pp : Pos := ⟨0, 0, 0, 0⟩
theorem g_pre : ∀ w os, goT treeTable PySem.Challenge.rw_formcycle_k14_own_turns.row.prog w 11 (some (.ref 6)) 12 (bootT w os) (topStub PySem.Challenge.rw_formcycle_k14_own_turns.row.prog) = some (St0 w os, ⟨denote treeTable cc, cc, pp, [topFrame qq]⟩) := fun w os => by kernel_rfl
theorem g_blk : ∀ w os, segRunT treeTable PySem.Challenge.rw_formcycle_k14_own_turns.row.prog w 11 (some (.ref 6)) 1 1 (St0 w os) (blockOf bE ev cc pp [topFrame qq]) = some (.next, St0 w os, cc, ps0) := fun w os => by kernel_rfl
noncomputable def l28 : List Stmt := List.take 28 bE
noncomputable def r28 : List Stmt := List.drop 28 bE
theorem g_28 : ∀ w os, segRunT treeTable PySem.Challenge.rw_formcycle_k14_own_turns.row.prog w 11 (some (.ref 6)) 1 1523 (St0 w os) (piecesOf l28 ev cc ps0 [topFrame qq]) = some (.next, St28 w os, cc, ps28) := fun w os => by kernel_rfl
noncomputable def TL (w : World) (os : OsState) : Option SharedT := topT treeTable PySem.Challenge.rw_formcycle_k14_own_turns.row.prog w 11 (some (.ref 6)) 406 (St28 w os) (restOf r28 ev cc ps28 [topFrame qq])
theorem hr : ∀ w os r, TL w os = some r → topRun treeTable PySem.Challenge.rw_formcycle_k14_own_turns.row.prog w (bootS w os).heap.objs.size ((bootS w os).heap.nsMap mainGlobals "__annotations__") 1942 (bootS w os) (topStub PySem.Challenge.rw_formcycle_k14_own_turns.row.prog) = some r.abs := fun w os r h => by
  rw [show (bootS w os).heap.objs.size = 11 by kernel_rfl, show (bootS w os).heap.nsMap mainGlobals "__annotations__" = some (.ref 6) by kernel_rfl]
  have k := topT_of _ h
  have k := piece_app (segRun_of (g_28 w os)) k
  rw [show l28 ++ r28 = bE from List.take_append_drop _ _] at k
  have k := piece_block (segRun_of (g_blk w os)) k
  have k := go_top (goT_of _ (g_pre w os)) k
  rw [boot_abs] at k
  exact k
noncomputable def sA0 (s : Shared) := PyProof.Rows.seen ((PyProof.Rows.recsOf vw).map (·.name)) (PyProof.Rows.ownsOf vw) [] { s with gens := #[] }
noncomputable def sA1 (s : Shared) := s.heap.bltView
noncomputable def sA2 (s : Shared) := s.heap.keysOk (looseW vw []) ((PyProof.Rows.recsOf vw).map (·.name)) ((PyProof.Rows.litsOf vw).map (·.1)) ((PyProof.Rows.clssOf vw (looseW vw [])).map (·.name)) && s.heap.accountedOkI (importedModules PySem.Challenge.rw_formcycle_k14_own_turns.row.prog.main.body) && s.heap.isNs mainGlobals && s.heap.isNs builtinsNs && PyProof.Rows.tablesOk vw s.heap && (xlAt vw [] s && recOk (RowW.records PySem.Challenge.rw_formcycle_k14_own_turns.row.toRowW) s) && (if true then s.gens.size == 0 else !leftWithCleanup s.gens)
noncomputable def sA3 (s : Shared) := PyProof.Rows.tabsOk vw s
noncomputable def sA4 (s : Shared) := pinSeenD vw (PyProof.Rows.drecsOf vw) s
noncomputable def sA5 (s : Shared) := PyProof.Rows.plainSeenE vw (looseW vw []) s
noncomputable def sA6 (s : Shared) := PyProof.Rows.plainSeenD vw [] s
noncomputable def sA7 (s : Shared) := wideSeen vw s
noncomputable def sA8 (s : Shared) := clsSeenW vw [] s
theorem hA : ∀ (w : World) (os : OsState), (TL w os).map (fun r => stays PySem.Challenge.rw_formcycle_k14_own_turns.row.prog (bootS w os) r.abs) = some true := fun w os => by kernel_rfl
theorem hB0 : ∀ (w : World) (os : OsState), (TL w os).map (fun r => sA0 r.abs) = some (PyProof.Rows.expectedOf vw) := fun w os => by kernel_rfl
theorem hB1 : ∀ (w : World) (os : OsState), (TL w os).map (fun r => (sA1 r.abs, sA3 r.abs, sA4 r.abs, sA6 r.abs, sA8 r.abs)) = some (bltViewBooted, true, pinGoodD (PyProof.Rows.drecsOf vw), PyProof.Rows.plainGoodD vw [], clsGoodW vw []) := fun w os => by kernel_rfl
theorem hB2 : ∀ (w : World) (os : OsState), (TL w os).map (fun r => sA2 r.abs) = some true := fun w os => by kernel_rfl
theorem hB5 : ∀ (w : World) (os : OsState), (TL w os).map (fun r => sA5 r.abs) = some (PyProof.Rows.plainGoodE vw (looseW vw [])) := fun w os => by kernel_rfl
theorem hB7 : ∀ (w : World) (os : OsState), (TL w os).map (fun r => sA7 r.abs) = some (wideGood vw) := fun w os => by kernel_rfl
theorem nine {α0 α1 α2 α3 α4 α5 α6 α7 α8 : Type} {o : Option SharedT} {A0 : Shared → α0} {A1 : Shared → α1} {A2 : Shared → α2} {A3 : Shared → α3} {A4 : Shared → α4} {A5 : Shared → α5} {A6 : Shared → α6} {A7 : Shared → α7} {A8 : Shared → α8} {a0 : α0} {a1 : α1} {a2 : α2} {a3 : α3} {a4 : α4} {a5 : α5} {a6 : α6} {a7 : α7} {a8 : α8}
    (h0 : o.map (fun r => A0 r.abs) = some a0) (h1 : o.map (fun r => (A1 r.abs, A3 r.abs, A4 r.abs, A6 r.abs, A8 r.abs)) = some (a1, a3, a4, a6, a8)) (h2 : o.map (fun r => A2 r.abs) = some a2) (h5 : o.map (fun r => A5 r.abs) = some a5) (h7 : o.map (fun r => A7 r.abs) = some a7) :
    o.map (fun r => (A0 r.abs, A1 r.abs, A2 r.abs, A3 r.abs, A4 r.abs, A5 r.abs, A6 r.abs, A7 r.abs, A8 r.abs)) = some (a0, a1, a2, a3, a4, a5, a6, a7, a8) := by
  cases o with
  | none => cases h0
  | some r =>
    simp only [Option.map_some, Option.some.injEq, Prod.mk.injEq] at h0 h1 h2 h5 h7 ⊢
    exact ⟨h0, h1.1, h2, h1.2.1, h1.2.2.1, h5, h1.2.2.2.1, h7, h1.2.2.2.2⟩
theorem hB : ∀ (w : World) (os : OsState), (TL w os).map (fun r => openSeen vw [] (importedModules PySem.Challenge.rw_formcycle_k14_own_turns.row.prog.main.body) (fun s => xlAt vw [] s && recOk (RowW.records PySem.Challenge.rw_formcycle_k14_own_turns.row.toRowW) s) true r.abs) = some (openGood vw []) := fun w os => nine (A0 := sA0) (A1 := sA1) (A2 := sA2) (A3 := sA3) (A4 := sA4) (A5 := sA5) (A6 := sA6) (A7 := sA7) (A8 := sA8) (hB0 w os) (hB1 w os) (hB2 w os) (hB5 w os) (hB7 w os)
theorem hC : ∀ (w : World) (os : OsState), (TL w os).map (fun r => Hook.obs (kHook My.KK My.asK (fun _ => by kernel_rfl)) r.abs) = some (Hook.val (kHook My.KK My.asK (fun _ => by kernel_rfl)) w) := fun w os => by kernel_rfl
theorem hl : LeftO PySem.Challenge.rw_formcycle_k14_own_turns.row.prog vw [] (fun s => xlAt vw [] s && recOk (RowW.records PySem.Challenge.rw_formcycle_k14_own_turns.row.toRowW) s) (Hook.obs (kHook My.KK My.asK (fun _ => by kernel_rfl))) (Hook.val (kHook My.KK My.asK (fun _ => by kernel_rfl))) 1942 := fun w => ends_of4 (TL := TL w) (by kernel_rfl) (by decide) (fun _ => by kernel_rfl) (hr w) (hA w) (hB w) (hC w) (fun os => by kernel_rfl)
end My
namespace L2
open PySem PySem.Spec PyProof.Rows

abbrev Key := Sum Int Str
def keyIs : Key → Value → Bool
  | .inl k, v => Value.isInt k v
  | .inr x, v => Value.isStrOf x v
def keyH (w : World) : Key → Int
  | .inl k => hashInt k
  | .inr x => hashStr w x
theorem keyIs_shape : ∀ {k : Key} {v : Value}, keyIs k v = true → (∃ i t, k = Sum.inl i ∧ v = Value.int i t) ∨ (∃ x t, k = Sum.inr x ∧ v = Value.str x t)
  | .inl i, v, h => by
    obtain ⟨t, e⟩ := Value.isInt_shape (k := i) (v := v) h
    exact .inl ⟨i, t, rfl, e⟩
  | .inr x, v, h => by
    obtain ⟨t, e⟩ := Value.isStrOf_shape (x := x) (v := v) h
    exact .inr ⟨x, t, rfl, e⟩
theorem key_ll (a b : Int) : decide ((Sum.inl a : Key) = Sum.inl b) = (a == b) := by
  by_cases e : a = b
  · subst e; simp
  · have h : ¬ (Sum.inl a : Key) = Sum.inl b := fun q => e (Sum.inl.inj q)
    rw [decide_eq_false h]
    exact (beq_eq_false_iff_ne.mpr e).symm
theorem key_rr (a b : Str) : decide ((Sum.inr a : Key) = Sum.inr b) = decide (a = b) := by
  by_cases e : a = b
  · subst e; simp
  · have h : ¬ (Sum.inr a : Key) = Sum.inr b := fun q => e (Sum.inr.inj q)
    rw [decide_eq_false h, decide_eq_false e]
theorem key_lr (a : Int) (b : Str) : decide ((Sum.inl a : Key) = Sum.inr b) = false := decide_eq_false (fun q => nomatch q)
theorem key_rl (a : Str) (b : Int) : decide ((Sum.inr a : Key) = Sum.inl b) = false := decide_eq_false (fun q => nomatch q)

def mixKind (prog : Program) (w : World) : PySem.KeyKind prog w Key where
  is := keyIs
  hash := keyH w
  inj := fun v a b ha hb => by
    rcases keyIs_shape ha with ⟨i, t, rfl, rfl⟩ | ⟨x, t, rfl, rfl⟩
    · rcases keyIs_shape hb with ⟨j, u, rfl, e⟩ | ⟨y, u, rfl, e⟩
      · injection e with e1 _; rw [e1]
      · exact nomatch e
    · rcases keyIs_shape hb with ⟨j, u, rfl, e⟩ | ⟨y, u, rfl, e⟩
      · exact nomatch e
      · injection e with e1 _; rw [e1]
  byValue := fun k v h => by
    rcases keyIs_shape h with ⟨i, t, rfl, rfl⟩ | ⟨x, t, rfl, rfl⟩ <;> rfl
  pyHash := fun hv h => by
    rcases keyIs_shape hv with ⟨i, t, rfl, rfl⟩ | ⟨x, t, rfl, rfl⟩
    · exact wpAny_pyHash_int h
    · exact wpAny_pyHash_str h
  eqBool := fun hu hv h => by
    rcases keyIs_shape hu with ⟨i, t, rfl, rfl⟩ | ⟨x, t, rfl, rfl⟩
    · rcases keyIs_shape hv with ⟨j, u, rfl, rfl⟩ | ⟨y, u, rfl, rfl⟩
      · rw [key_ll] at h; exact wpAny_eqBool_int h
      · rw [key_lr] at h; exact SeqAt.EqAt.int_str i t y u _ _ _ _ h
    · rcases keyIs_shape hv with ⟨j, u, rfl, rfl⟩ | ⟨y, u, rfl, rfl⟩
      · rw [key_rl] at h; exact SeqAt.EqAt.str_int x t j u _ _ _ _ h
      · rw [key_rr] at h; exact wpAny_eqBool_str h
  «strs» := fun k x t v h => by
    rcases keyIs_shape h with ⟨i, u, rfl, e⟩ | ⟨y, u, rfl, e⟩
    · exact nomatch e
    · injection e with e1 _
      subst e1
      cases v <;> rfl

end L2

namespace L2
open PySem PySem.Spec PyProof.Rows

inductive V where
  | non | bl (b : Bool) | int (i : Int) | str (x : Str) | byt (b : Array UInt8) | flt (b : UInt64) | ref (a : Addr) | ty (n : String)
  deriving DecidableEq

def RelV : V → Value → Prop
  | .non, u => u = Value.none
  | .bl b, u => u = Value.bool b
  | .int i, u => ∃ t, u = Value.int i t
  | .str x, u => ∃ t, u = Value.str x t
  | .byt b, u => ∃ t, u = Value.bytes b t
  | .flt b, u => ∃ t, u = Value.float b t
  | .ref a, u => u = Value.ref a
  | .ty n, u => u = Value.type n

abbrev Vals : List V → List Value → Prop := Paired RelV
theorem Vals.length {xs : List V} {us : List Value} (r : Vals xs us) : xs.length = us.length := Paired.length r
theorem Vals.get : ∀ {xs : List V} {us : List Value} {i : Nat} {x : V}, Vals xs us → xs[i]? = some x → ∃ u, us[i]? = some u ∧ RelV x u
  | _, _, _, _, .nil, e => by simp at e
  | _, _, 0, _, .cons r _, e => by simp at e; subst e; exact ⟨_, rfl, r⟩
  | _, _, i + 1, x, .cons _ t, e => by
    obtain ⟨u, h1, h2⟩ := Vals.get (i := i) (x := x) t (by simpa using e)
    exact ⟨u, by simpa using h1, h2⟩
theorem Vals.set {x : V} {u : Value} (r : RelV x u) : ∀ {xs : List V} {us : List Value} (i : Nat), Vals xs us → Vals (xs.set i x) (us.set i u)
  | _, _, _, .nil => .nil
  | _, _, 0, .cons _ t => .cons r t
  | _, _, i + 1, .cons q t => .cons q (Vals.set r i t)
theorem Vals.append : ∀ {xs ys : List V} {us ws : List Value}, Vals xs us → Vals ys ws → Vals (xs ++ ys) (us ++ ws)
  | _, _, _, _, .nil, s => s
  | _, _, _, _, .cons r t, s => .cons r (Vals.append t s)
theorem Vals.take : ∀ {xs : List V} {us : List Value} (n : Nat), Vals xs us → Vals (xs.take n) (us.take n)
  | _, _, 0, _ => .nil
  | _, _, _ + 1, .nil => .nil
  | _, _, n + 1, .cons r t => .cons r (Vals.take n t)
theorem Vals.drop : ∀ {xs : List V} {us : List Value} (n : Nat), Vals xs us → Vals (xs.drop n) (us.drop n)
  | _, _, 0, r => r
  | _, _, _ + 1, .nil => .nil
  | _, _, n + 1, .cons _ t => Vals.drop n t
def RelO : Option V → Option Value → Prop
  | some v, some u => RelV v u
  | none, none => True
  | _, _ => False
def KV {κ : Type} : List (κ × V) → List (κ × Value) → Prop := Paired fun (p : κ × V) (q : κ × Value) => p.1 = q.1 ∧ RelV p.2 q.2

def kV : Key → V
  | .inl i => .int i
  | .inr x => .str x

inductive HO where
  /-- a list -/
  | lst (xs : List V)
  /-- a tuple (never changes) -/
  | tup (xs : List V)
  /-- a dict whose keys are ints and texts; one whose keys are tuples of ints and texts (the empty one is both) -/
  | dK (kvs : List (Key × V)) | dT (kvs : List (List Key × V))
  /-- a set of ints: its members, its size -/
  | set (S : Int → Bool) (n : Nat)
  /-- an instance of the class at C, its dict at dx, its attributes -/
  | ins (C dx : Addr) (fs : List (Str × V))
  /-- the dict of the instance at x -/
  | own (x : Addr)
  /-- the dict of an exception -/
  | xd (fs : List (Str × V))
  /-- a bound method, f of x -/
  | met (f x : Addr)
  /-- a range object lo, lo + 1, .. below hi -/
  | rng (lo hi : Int)
  /-- a thing that is known to the object (the script; a dict while a loop walks it): read, never written while it is so -/
  | frz (o : Obj) (u : HO)
  /-- a code object's table -/
  | tbl (ps : Array Value)
  /-- any other thing, by what is true of its one object (a def of one's own: SetO a S n := HO.ext fun h => ..) -/
  | ext (φ : Heap → Prop)

abbrev Hp := Addr → Option HO
def upd (H : Hp) (a : Addr) (o : HO) : Hp := fun b => if b = a then some o else H b
theorem upd_same {H : Hp} {a : Addr} {o : HO} : upd H a o a = some o := by unfold upd; rw [if_pos rfl]
theorem upd_ne {H : Hp} {a b : Addr} {o : HO} (h : b ≠ a) : upd H a o b = H b := by unfold upd; rw [if_neg h]
theorem ne_of_none {H : Hp} {a b : Addr} {o : HO} (h : H a = some o) (h' : H b = none) : a ≠ b := by
  intro e; subst e; rw [h] at h'; cases h'

section
variable (P : Program) (w : World)
def ObjOk (H : Hp) (h : Heap) (a : Addr) : HO → Prop
  | .lst xs => xs.length ≤ sizeLine ∧ ∃ (its : List Value) (n : Nat), Vals xs its ∧ h.get? a = some { cls := .type "list", data := .seq its.toArray n }
  | .tup xs => xs.length ≤ sizeLine ∧ ∃ its : List Value, Vals xs its ∧ IsTup h a its.toArray
  | .dK kvs => kvs.length ≤ sizeLine ∧ (a == sysModules) = false ∧ ∃ vs, KV kvs vs ∧ h.DictOf (mixKind P w) a vs
  | .dT kvs => kvs.length ≤ sizeLine ∧ (a == sysModules) = false ∧ ∃ xs : List (List Key × Addr × Value),
      Paired (fun (p : List Key × V) (q : List Key × Addr × Value) => p.1 = q.1 ∧ H q.2.1 = some (.tup (p.1.map kV)) ∧ RelV p.2 q.2.2) kvs xs ∧
      ∃ o es ep, h.get? a = some o ∧ o.ExactDict ∧ o.data = .dict es ep ∧ es.toList = xs.map (entryOfKey (tupleKind (mixKind P w))) ∧ (xs.map (·.1)).Nodup
  | .set S n => h.SetOf (intKind P w) a S n
  | .ins C dx fs => H dx = some (.own a) ∧ fs.length ≤ 1000 ∧ dx ≠ a ∧ h.get? a = some (PySem.W.instObj C dx) ∧
      ∃ mA, h.Ns1 dx mA ∧ (∀ f, RelO (fs.lookup f) (mA f)) ∧ PySem.Within mA (fs.map (·.1))
  | .own _ => ∃ o, h.get? a = some o
  | .xd fs => ∃ mA, h.Ns1 a mA ∧ ∀ f, RelO (fs.lookup f) (mA f)
  | .rng lo hi => ∃ t u v, h.get? a = some { cls := .type "range", data := .fields #[.int lo t, .int hi u, .int 1 v] }
  | .frz o u => h.get? a = some o ∧ ObjOk H h a u
  | .tbl ps => h.get? a = some { cls := .none, data := .fields ps }
  | .met f x => h.get? a = some (PySem.W.methodObj (.ref f) (.ref x))
  | .ext φ => φ h ∧ (∃ o, h.get? a = some o) ∧ ∀ h1 h2 : Heap, φ h1 → (∀ o, h1.get? a = some o → h2.get? a = some o) → φ h2
def HOk (H : Hp) (h : Heap) : Prop := ∀ a o, H a = some o → ObjOk P w H h a o
end

section
variable {P : Program} {w : World} {H H' : Hp} {h h' : Heap} {a : Addr} {o : HO}
theorem ObjOk.lt (x : ObjOk P w H h a o) : a < h.objs.size := by
  cases o with
  | lst xs => obtain ⟨_, _, _, _, e⟩ := x; exact Heap.lt_size e
  | tup xs => obtain ⟨_, _, _, p⟩ := x; exact p.lt
  | dK kvs => obtain ⟨_, _, _, _, o, _, _, e, _⟩ := x; exact Heap.lt_size e
  | dT kvs => obtain ⟨_, _, _, _, o, _, _, e, _⟩ := x; exact Heap.lt_size e
  | set S n => obtain ⟨o, _, _, _, e, _⟩ := x; exact Heap.lt_size e
  | ins C dx fs => obtain ⟨_, _, _, e, _⟩ := x; exact Heap.lt_size e
  | own y => obtain ⟨_, e⟩ := x; exact Heap.lt_size e
  | xd fs => obtain ⟨_, ⟨_, _, _, e, _⟩, _⟩ := x; exact Heap.lt_size e
  | rng lo hi => obtain ⟨_, _, _, e⟩ := x; exact Heap.lt_size e
  | frz ob u => obtain ⟨e, _⟩ := x; exact Heap.lt_size e
  | tbl ps => exact Heap.lt_size (show h.get? a = some _ from x)
  | met f y => exact Heap.lt_size (show h.get? a = some _ from x)
  | ext φ => obtain ⟨_, ⟨_, e⟩, _⟩ := x; exact Heap.lt_size e
theorem Paired.mapP {α β : Type} {F G : α → β → Prop} : ∀ {l₁ : List α} {l₂ : List β}, Paired F l₁ l₂ → (∀ a b, F a b → G a b) → Paired G l₁ l₂
  | _, _, .nil, _ => .nil
  | _, _, .cons r t, f => .cons (f _ _ r) (Paired.mapP t f)
theorem ObjOk.stay (x : ObjOk P w H h a o) (k : ∀ b u, (b = a ∨ H b = some (.own a)) → h.get? b = some u → h'.get? b = some u)
    (ho : ∀ b, H b = some (.own a) → H' b = some (.own a)) (ht : ∀ b xs, H b = some (.tup xs) → H' b = some (.tup xs)) : ObjOk P w H' h' a o := by
  induction o with
  | lst xs => obtain ⟨z, its, n, r, e⟩ := x; exact ⟨z, its, n, r, k _ _ (.inl rfl) e⟩
  | tup xs => obtain ⟨z, its, r, ob, e, c⟩ := x; exact ⟨z, its, r, ob, k _ _ (.inl rfl) e, c⟩
  | dK kvs => obtain ⟨z, y, vs, r, ob, es, ep, e, c⟩ := x; exact ⟨z, y, vs, r, ob, es, ep, k _ _ (.inl rfl) e, c⟩
  | dT kvs =>
    obtain ⟨z, y, xs, r, ob, es, ep, e, c⟩ := x
    exact ⟨z, y, xs, Paired.mapP r fun p q z => ⟨z.1, ht _ _ z.2.1, z.2.2⟩, ob, es, ep, k _ _ (.inl rfl) e, c⟩
  | set S n => obtain ⟨ob, es, ep, t, e, c⟩ := x; exact ⟨ob, es, ep, t, k _ _ (.inl rfl) e, c⟩
  | ins C dx fs =>
    obtain ⟨d, z, ne, e, mA, ⟨od, es, ep, e2, c⟩, r⟩ := x
    exact ⟨ho _ d, z, ne, k _ _ (.inl rfl) e, mA, ⟨od, es, ep, k _ _ (.inr d) e2, c⟩, r⟩
  | own y => obtain ⟨ob, e⟩ := x; exact ⟨ob, k _ _ (.inl rfl) e⟩
  | xd fs => obtain ⟨mA, ⟨od, es, ep, e, c⟩, r⟩ := x; exact ⟨mA, ⟨od, es, ep, k _ _ (.inl rfl) e, c⟩, r⟩
  | rng lo hi => obtain ⟨t, u, v, e⟩ := x; exact ⟨t, u, v, k _ _ (.inl rfl) e⟩
  | frz ob u ih => obtain ⟨e, q⟩ := x; exact ⟨k _ _ (.inl rfl) e, ih q⟩
  | tbl ps =>
    have e : h.get? a = some { cls := .none, data := .fields ps } := x
    show h'.get? a = some { cls := .none, data := .fields ps }
    exact k a _ (.inl rfl) e
  | met f y =>
    have e : h.get? a = some (PySem.W.methodObj (.ref f) (.ref y)) := x
    show h'.get? a = some (PySem.W.methodObj (.ref f) (.ref y))
    exact k a _ (.inl rfl) e
  | ext φ => obtain ⟨p, ⟨o, e⟩, st⟩ := x; exact ⟨st _ _ p fun o q => k _ _ (.inl rfl) q, ⟨o, k _ _ (.inl rfl) e⟩, st⟩
theorem HOk.lt (x : HOk P w H h) (e : H a = some o) : a < h.objs.size := (x a o e).lt
theorem HOk.fresh (x : HOk P w H h) (e : h.objs.size ≤ a) : H a = none := by
  cases q : H a with
  | none => rfl
  | some u => exact absurd (Nat.lt_of_lt_of_le (x.lt q) e) (Nat.lt_irrefl _)
theorem HOk.kept (x : HOk P w H h) (k : ∀ b u, h.get? b = some u → h'.get? b = some u) : HOk P w H h' := fun a o e =>
  (x a o e).stay (fun b u _ q => k b u q) (fun _ q => q) fun _ _ q => q
theorem HOk.laid (x : HOk P w H h) (k : ∀ b u, h.get? b = some u → h'.get? b = some u) (hp : h.objs.size ≤ a) (new : ObjOk P w (upd H a o) h' a o) : HOk P w (upd H a o) h' := fun b u e => by
  have hn := x.fresh hp
  by_cases hb : b = a
  · subst hb; rw [upd_same] at e; cases e; exact new
  · rw [upd_ne hb] at e
    exact (x b u e).stay (fun c v _ q => k c v q) (fun c q => by rw [upd_ne (ne_of_none q hn)]; exact q) fun c xs q => by rw [upd_ne (ne_of_none q hn)]; exact q
end

def Rd (H : Hp) (a : Addr) (u : HO) : Prop := H a = some u ∨ ∃ o, H a = some (.frz o u)
theorem Rd.of {H : Hp} {a : Addr} {u : HO} (h : H a = some u) : Rd H a u := .inl h
theorem Rd.ok {P : Program} {w : World} {H : Hp} {h : Heap} {a : Addr} {u : HO} (r : Rd H a u) (x : HOk P w H h) : ObjOk P w H h a u := by
  rcases r with r | ⟨o, r⟩
  · exact x a u r
  · obtain ⟨_, q⟩ := x a _ r
    exact q
def Mut : Option HO → Prop
  | some (.lst _) => True
  | some (.dK _) => True
  | some (.dT _) => True
  | some (.set _ _) => True
  | some (.ins _ _ _) => True
  | some (.ext _) => True
  | _ => False
section
variable {P : Program} {w : World} {H : Hp} {h h' : Heap} {x e : Addr} {o' : HO}
theorem HOk.write (ok : HOk P w H h) (mu : Mut (H x)) (he : e = x ∨ H e = some (.own x)) (k : ∀ b u, b ≠ e → h.get? b = some u → h'.get? b = some u) (heo : ∃ u, h'.get? e = some u)
    (new : ObjOk P w (upd H x o') h' x o') : HOk P w (upd H x o') h' := fun b u q => by
  have nown : ∀ c y, H c = some (.own y) → c ≠ x := fun c y r z => by subst z; rw [r] at mu; exact mu
  have ntup : ∀ c xs, H c = some (.tup xs) → c ≠ x := fun c xs r z => by subst z; rw [r] at mu; exact mu
  by_cases hb : b = x
  · subst hb; rw [upd_same] at q; cases q; exact new
  · rw [upd_ne hb] at q
    by_cases hbe : b = e
    · have q' : H b = some (.own x) := by
        rcases he with z | z
        · exact absurd (hbe.trans z) hb
        · rw [hbe]; exact z
      rw [q] at q'; cases q'
      obtain ⟨v, hv⟩ := heo
      exact ⟨v, by rw [hbe]; exact hv⟩
    · refine (ok b u q).stay (fun c v hc r => k c v ?_ r) (fun c r => by rw [upd_ne (nown c b r)]; exact r) fun c xs r => by rw [upd_ne (ntup c xs r)]; exact r
      rcases hc with rfl | hc
      · exact hbe
      · rintro rfl
        rcases he with z | z
        · exact nown c b hc z
        · rw [hc] at z; cases z; exact hb rfl
end

structure Un (fs ex : List Addr) (H H' : Hp) (h h' : Heap) : Prop where
  keep : ∀ b o, h.get? b = some o → H b = none → b ∉ fs → b ∉ ex → h'.get? b = some o
  slot : ∀ b o, h.get? b = some o → H b = none → b ∈ fs → b ∉ ex → ∃ sl, h'.get? b = some { o with slots := sl }
  free : ∀ b o, h.get? b = some o → H b = none → b ∉ ex → H' b = none
  there : ∀ b o, h.get? b = some o → b ∉ ex → ∃ o', h'.get? b = some o'
  tups : ∀ b xs, H b = some (.tup xs) → H' b = some (.tup xs)
  frzs : ∀ b o u, H b = some (.frz o u) → H' b = some (.frz o u)
  tbls : ∀ b ps, H b = some (.tbl ps) → ∃ more, H' b = some (.tbl (ps ++ more))
section
variable {fs fs' ex ex' : List Addr} {H H1 H2 : Hp} {h h1 h2 h' : Heap} {a x e : Addr} {o : HO}
theorem Un.any (u : Un fs ex H H1 h h1) {b : Addr} {ob : Obj} (q : h.get? b = some ob) (n : H b = none) (hx : b ∉ ex) : ∃ sl, h1.get? b = some { ob with slots := sl } := by
  by_cases hb : b ∈ fs
  · exact u.slot b ob q n hb hx
  · exact ⟨ob.slots, u.keep b ob q n hb hx⟩
theorem Un.trans (a : Un fs ex H H1 h h1) (b : Un fs ex H1 H2 h1 h2) : Un fs ex H H2 h h2 where
  keep := fun c ob q n hc hx => b.keep c ob (a.keep c ob q n hc hx) (a.free c ob q n hx) hc hx
  slot := fun c ob q n hc hx => by
    obtain ⟨sl, e1⟩ := a.slot c ob q n hc hx
    obtain ⟨sl', e2⟩ := b.slot c _ e1 (a.free c ob q n hx) hc hx
    exact ⟨sl', e2⟩
  free := fun c ob q n hx => by
    obtain ⟨o', e1⟩ := a.there c ob q hx
    exact b.free c o' e1 (a.free c ob q n hx) hx
  there := fun c ob q hx => by
    obtain ⟨o', e1⟩ := a.there c ob q hx
    exact b.there c o' e1 hx
  tups := fun c xs q => b.tups c xs (a.tups c xs q)
  frzs := fun c ob xs q => b.frzs c ob xs (a.frzs c ob xs q)
  tbls := fun c ps q => by
    obtain ⟨m1, e1⟩ := a.tbls c ps q
    obtain ⟨m2, e2⟩ := b.tbls c _ e1
    exact ⟨m1 ++ m2, by rw [e2, Array.append_assoc]⟩
theorem Un.kept (k : ∀ b u, h.get? b = some u → h'.get? b = some u) : Un fs ex H H h h' :=
  ⟨fun b ob q _ _ _ => k b ob q, fun b ob q _ _ _ => ⟨ob.slots, k b ob q⟩, fun _ _ _ n _ => n, fun b ob q _ => ⟨ob, k b ob q⟩, fun _ _ q => q, fun _ _ _ q => q, fun _ ps q => ⟨#[], by rw [q]; simp⟩⟩
theorem Un.refl : Un fs ex H H h h := Un.kept fun _ _ q => q
theorem Un.laid (k : ∀ b u, h.get? b = some u → h'.get? b = some u) (hp : h.objs.size ≤ a) (hn : H a = none) : Un fs ex H (upd H a o) h h' where
  keep := fun b u q _ _ _ => k b u q
  slot := fun b u q _ _ _ => ⟨u.slots, k b u q⟩
  free := fun b u q n _ => by rw [upd_ne (Nat.ne_of_lt (Nat.lt_of_lt_of_le (Heap.lt_size q) hp))]; exact n
  there := fun b u q _ => ⟨u, k b u q⟩
  tups := fun b xs q => by rw [upd_ne (ne_of_none q hn)]; exact q
  frzs := fun b u xs q => by rw [upd_ne (ne_of_none q hn)]; exact q
  tbls := fun b ps q => ⟨#[], by rw [upd_ne (ne_of_none q hn), q]; simp⟩
theorem Un.write (mu : Mut (H x)) (he : e = x ∨ H e = some (.own x)) (k : ∀ b u, b ≠ e → h.get? b = some u → h'.get? b = some u) (heo : ∃ u, h'.get? e = some u) : Un fs ex H (upd H x o) h h' := by
  have hx : ∀ b, H b = none → b ≠ x := fun b n z => by subst z; rw [n] at mu; exact mu
  have hb : ∀ b, H b = none → b ≠ e := fun b n z => by
    subst z
    rcases he with r | r
    · exact hx b n r
    · rw [n] at r; cases r
  have hm : ∀ b u, H b = some u → ¬ Mut (some u) → b ≠ x := fun b u q nm z => by subst z; rw [q] at mu; exact nm mu
  refine ⟨fun b u q n _ _ => k b u (hb b n) q, fun b u q n _ _ => ⟨u.slots, k b u (hb b n) q⟩, fun b u q n _ => by rw [upd_ne (hx b n)]; exact n, fun b u q _ => ?_,
    fun b xs q => by rw [upd_ne (hm b _ q fun z => z)]; exact q, fun b u xs q => by rw [upd_ne (hm b _ q fun z => z)]; exact q, fun b ps q => ⟨#[], by rw [upd_ne (hm b _ q fun z => z), q]; simp⟩⟩
  by_cases hbe : b = e
  · subst hbe; exact heo
  · exact ⟨u, k b u hbe q⟩
theorem Un.mono (u : Un fs ex H H1 h h1) (hs : ∀ b ∈ fs, b ∈ fs') (hx : ∀ b ∈ ex, b ∈ ex') : Un fs' ex' H H1 h h1 :=
  ⟨fun b ob q n hb he => u.keep b ob q n (fun z => hb (hs b z)) fun z => he (hx b z), fun _ _ q n _ he => u.any q n fun z => he (hx _ z), fun b ob q n he => u.free b ob q n fun z => he (hx b z), fun b ob q he => u.there b ob q fun z => he (hx b z), u.tups, u.frzs, u.tbls⟩
end

def trk (h : Heap) (H : Hp) : List Addr := (List.range h.objs.size).filter fun a => (H a).isSome
def hidT (h : Heap) (H : Hp) : Heap := PySem.W.hideAll h (trk h H)
theorem hidT_size (h : Heap) (H : Hp) : (hidT h H).objs.size = h.objs.size := PySem.W.hideAll_size _ _
theorem hidT_get {h : Heap} {H : Hp} {b : Addr} {o : Obj} (e : h.get? b = some o) (n : H b = none) : (hidT h H).get? b = some o :=
  PySem.W.hideAll_get _ e fun hm => by
    have q : (H b).isSome = true := (List.mem_filter.mp hm).2
    rw [n] at q; simp at q
theorem of_hidT {h : Heap} {H : Hp} {b : Addr} {o : Obj} (e : (hidT h H).get? b = some o) : h.get? b = some o ∧ H b = none := by
  have e' : h.get? b = some o := PySem.W.of_hideAll (trk h H) e
  refine ⟨e', ?_⟩
  cases q : H b with
  | none => rfl
  | some x =>
    have hm : b ∈ trk h H := List.mem_filter.mpr ⟨List.mem_range.mpr (Heap.lt_size e'), by simp [q]⟩
    have z : (hidT h H).get? b = none := PySem.W.hideAll_none (trk h H) hm
    rw [z] at e; cases e

def allNews (g h : Heap) (L : Addr) : List (Addr × Obj) := (List.range h.objs.size).filterMap fun a => if a = L ∨ (g.get? a).isSome = true then none else (h.get? a).map fun o => (a, o)
def rest (g h : Heap) (L d : Addr) : List (Addr × Obj) := (allNews g h L).filter fun p => decide (p.1 ≠ d)
end L2

namespace L2
open PySem PySem.Spec PyProof.Rows

structure Mod (K : PySem.W.Frag) (mg : Str → Option Value) (base : Heap) : Prop where
  kin : K.In base
  glob : base.Ns mainGlobals mg
  blt : ∃ mb, base.Ns builtinsNs mb ∧ ∀ x : Str, x ≠ "__name__" → mb x = bootBuiltins x
  nolimit : base.NoLimit

structure Cx where
  prog : Program
  w : World
  K : PySem.W.Frag
  mg : Str → Option Value
  base : Heap
  A : Around
  N : List Str
  s₀ : Shared
  H₀ : Hp
  env : Env
  outer : List Env
  stack : List Env
  ex : List Addr
  fn : Str → Bool
  calm : Bool
  pn : List (Addr × Obj)
  xe : Value → Shared → Prop
def frs (l : List Env) : List Addr := l.filterMap (·.frame)
abbrev Cx.fs (X : Cx) : List Addr := frs X.outer

def Vis (sc : Scope) (x : Str) : Prop := sc.names.lookup x = some .local ∨ sc.names.lookup x = some .cell ∨ sc.names.lookup x = some .free
def Loc (sc : Scope) (x : Str) : Prop := sc.names.lookup x = some .local ∨ sc.names.lookup x = some .cell
def Look (env : Env) (h : Heap) (m : Str → Option Value) (x : Str) (u : Value) : Prop :=
  (env.kindOf x = some .local ∧ m x = some u) ∨ ((env.kindOf x = some .cell ∨ env.kindOf x = some .free) ∧ ∃ c, env.cells.lookup x = some c ∧ h.IsCell c (some u))

structure Cx.Ok (X : Cx) : Prop where
  mod : Mod X.K X.mg X.base
  kind : X.env.scope.kind = .function
  glob : X.env.globals = mainGlobals
  blt : X.env.builtins = builtinsNs
  above : X.s₀.heap.objs.size ≤ X.env.locals
  inj : ∀ x y c, X.env.cells.lookup x = some c → X.env.cells.lookup y = some c → x = y
  has : ∀ x, (X.env.kindOf x = some .cell ∨ X.env.kindOf x = some .free) → ∃ c, X.env.cells.lookup x = some c
  cab : ∀ x c, X.fn x = true → X.env.cells.lookup x = some c → X.s₀.heap.objs.size ≤ c
  hd : X.calm = true → X.A.handled = none
  frames : X.A.frames = some X.stack
  stk : X.stack = X.outer ∨ (X.stack = X.env :: X.outer ∧ X.env.frame = some X.env.locals)
  exf : ∀ b ∈ X.ex, b ≠ X.env.locals ∧ ∀ x c, X.env.cells.lookup x = some c → c ≠ b
  bs : ∀ b o, X.base.get? b = some o → X.s₀.heap.get? b = some o ∧ X.H₀ b = none
  bsz : X.base.objs.size ≤ X.s₀.heap.objs.size
  noex : ∀ b o, X.base.get? b = some o → b ∉ X.ex
  exfs : ∀ b ∈ X.ex, b ∉ X.fs
  funs : X.s₀.heap.FunFrames X.base X.outer
  frf : ∀ b ∈ X.fs, X.H₀ b = none

structure Inv (X : Cx) (pins : List (Addr × Obj)) (σ : List (Option V)) (H : Hp) (s : Shared) : Prop where
  ok : X.Ok
  os : s.os = X.s₀.os
  bare : AllBare s.gens
  base : Un X.fs X.ex X.H₀ H X.s₀.heap s.heap
  loc : ∃ m, s.heap.Ns X.env.locals m ∧ ∀ (i : Nat) (x : Str) (v : V), X.N[i]? = some x → σ[i]? = some (some v) → Vis X.env.scope x → ∃ u, RelV v u ∧ Look X.env s.heap m x u
  cell : ∀ x c, X.env.cells.lookup x = some c → ∃ v, s.heap.IsCell c v
  free : H X.env.locals = none
  freeC : ∀ x c, X.env.cells.lookup x = some c → H c = none
  pin : ∀ p ∈ X.pn ++ pins, s.heap.get? p.1 = some p.2 ∧ H p.1 = none ∧ p.1 ≠ X.env.locals ∧ p.1 ∉ X.fs ∧ ∀ v, p.2.data ≠ .cell v
  hok : HOk X.prog X.w H s.heap
  len : σ.length = X.N.length

section
variable {X : Cx} {pins : List (Addr × Obj)} {σ : List (Option V)} {H H' : Hp} {s : Shared} {h' : Heap}

theorem Cx.Ok.nofr (ok : X.Ok) {b : Addr} {o : Obj} (e : X.base.get? b = some o) : b ∉ X.fs := fun hb => by
  have := (ok.funs.mem hb).1
  rw [e] at this; cases this
theorem Inv.bs (I : Inv X pins σ H s) : ∀ b o, X.base.get? b = some o → s.heap.get? b = some o ∧ H b = none := fun b o e =>
  ⟨I.base.keep b o (I.ok.bs b o e).1 (I.ok.bs b o e).2 (I.ok.nofr e) (I.ok.noex b o e), I.base.free b o (I.ok.bs b o e).1 (I.ok.bs b o e).2 (I.ok.noex b o e)⟩
theorem Inv.bk (I : Inv X pins σ H s) : ∀ b o, X.base.get? b = some o → s.heap.get? b = some o := fun b o e => (I.bs b o e).1
theorem Inv.mod (I : Inv X pins σ H s) : Mod X.K X.mg X.base := I.ok.mod
theorem Inv.kIn (I : Inv X pins σ H s) : X.K.In s.heap := I.ok.mod.kin.keeps I.bk
theorem Inv.nolimit (I : Inv X pins σ H s) : s.heap.NoLimit := I.ok.mod.nolimit.keeps I.bk
theorem Inv.fr (I : Inv X pins σ H s) : ∃ m, Fr X.base X.env.locals s.heap m :=
  let ⟨m, hn, _⟩ := I.loc
  ⟨m, hn, I.bk, Nat.le_trans I.ok.bsz I.ok.above⟩
theorem Inv.lt (I : Inv X pins σ H s) : X.env.locals < s.heap.objs.size := let ⟨_, hn, _⟩ := I.loc; hn.lt
theorem Inv.sz (I : Inv X pins σ H s) : X.s₀.heap.objs.size ≤ s.heap.objs.size := Nat.le_trans I.ok.above (Nat.le_of_lt I.lt)
theorem Inv.nofs (I : Inv X pins σ H s) {a : Addr} (h : s.heap.objs.size ≤ a) : a ∉ X.fs := fun hb => by
  obtain ⟨_, o, ho, _⟩ := I.ok.funs.mem hb
  exact absurd (Nat.lt_of_lt_of_le (Heap.lt_size ho) (Nat.le_trans I.sz h)) (Nat.lt_irrefl _)
theorem Inv.cne (I : Inv X pins σ H s) : ∀ x c, X.env.cells.lookup x = some c → c ≠ X.env.locals := fun x c e z => by
  obtain ⟨v, o, ho, hd⟩ := I.cell x c e
  obtain ⟨m, ⟨o', es, ep, ho', hd', _⟩, _⟩ := I.loc
  rw [z, ho'] at ho; cases ho; rw [hd'] at hd; cases hd
theorem Inv.funs (I : Inv X pins σ H s) : s.heap.FunFrames X.base X.outer := by
  have all : ∀ (l : List Env), (∀ b ∈ frs l, b ∈ X.fs) → X.s₀.heap.FunFrames X.base l → s.heap.FunFrames X.base l := by
    intro l
    induction l with
    | nil => intro _ _; trivial
    | cons env r ih =>
      intro hs hl
      obtain ⟨hk, ⟨L, o, hf, hn, ho, hd⟩, hr⟩ := hl
      have hL : L ∈ X.fs := hs L (by unfold frs; rw [List.filterMap_cons, hf]; exact List.mem_cons_self)
      obtain ⟨sl, e⟩ := I.base.slot L o ho (I.ok.frf L hL) hL fun z => I.ok.exfs L z hL
      exact ⟨hk, ⟨L, _, hf, hn, e, hd⟩, ih (fun b hb => hs b (by unfold frs; rw [List.filterMap_cons, hf]; exact List.mem_cons_of_mem _ hb)) hr⟩
  exact all X.outer (fun _ hb => hb) I.ok.funs

theorem Inv.stack (I : Inv X pins σ H s) : s.heap.FunFrames X.base X.stack := by
  rcases I.ok.stk with e | ⟨e, hf⟩
  · rw [e]; exact I.funs
  · rw [e]
    obtain ⟨m, hn, _⟩ := I.loc
    refine .cons (by rw [I.ok.kind]; decide) hf hn ?_ I.funs
    exact Heap.get?_none_of_le (Nat.le_trans I.ok.bsz I.ok.above)
theorem Inv.stkSub (I : Inv X pins σ H s) : ∀ b ∈ frs X.stack, b ∈ X.env.locals :: X.fs := fun b hb => by
  rcases I.ok.stk with e | ⟨e, hf⟩
  · rw [e] at hb; exact List.mem_cons_of_mem _ hb
  · rw [e] at hb
    unfold frs at hb
    rw [List.filterMap_cons, hf] at hb
    exact hb
theorem Inv.stkFree (I : Inv X pins σ H s) : ∀ b ∈ frs X.stack, H b = none := fun b hb => by
  rcases List.mem_cons.mp (I.stkSub b hb) with e | hb
  · rw [e]; exact I.free
  · obtain ⟨_, o, ho, _⟩ := I.ok.funs.mem hb
    exact I.base.free b o ho (I.ok.frf b hb) fun z => I.ok.exfs b z hb

theorem Inv.step {g' : Array GenState} {t' : Nat} {d' : Drawn} {ch : List Addr} (I : Inv X pins σ H s)
    (hch : ∀ b ∈ ch, (b ∈ X.ex ∨ X.s₀.heap.objs.size ≤ b) ∧ b ≠ X.env.locals ∧ (∀ x c, X.env.cells.lookup x = some c → c ≠ b) ∧ ∀ p ∈ X.pn ++ pins, p.1 ≠ b)
    (keep : ∀ b o, b ≠ X.env.locals → b ∉ X.fs → b ∉ ch → s.heap.get? b = some o → H b = none → h'.get? b = some o)
    (slot : ∀ b o, b ≠ X.env.locals → b ∈ X.fs → b ∉ ch → s.heap.get? b = some o → H b = none → ∃ sl, h'.get? b = some { o with slots := sl }) (free : ∀ b o, b ∉ ch → s.heap.get? b = some o → H b = none → H' b = none)
    (there : ∀ b o, b ∉ ch → s.heap.get? b = some o → ∃ o', h'.get? b = some o')
    (tups : ∀ b xs, H b = some (.tup xs) → H' b = some (.tup xs)) (frzs : ∀ b o u, H b = some (.frz o u) → H' b = some (.frz o u)) (tbls : ∀ b ps, H b = some (.tbl ps) → ∃ more, H' b = some (.tbl (ps ++ more)))
    (ns : ∀ m, s.heap.Ns X.env.locals m → h'.Ns X.env.locals m) (hok : HOk X.prog X.w H' h') (hg : AllBare g') :
    Inv X pins σ H' { s with heap := h', gens := g', drawn := d', toks := t' } := by
  have neL : ∀ b o, X.s₀.heap.get? b = some o → b ≠ X.env.locals := fun b o e => Nat.ne_of_lt (Nat.lt_of_lt_of_le (Heap.lt_size e) I.ok.above)
  have neC : ∀ b o, X.s₀.heap.get? b = some o → b ∉ X.ex → b ∉ ch := fun b o e hx hb => by
    rcases (hch b hb).1 with z | z
    · exact hx z
    · exact absurd (Nat.lt_of_lt_of_le (Heap.lt_size e) z) (Nat.lt_irrefl _)
  have cellK : ∀ x c, X.env.cells.lookup x = some c → ∀ v, s.heap.IsCell c v → h'.IsCell c v := fun x c e v ⟨o, ho, hd⟩ => by
    have nch : c ∉ ch := fun z => (hch c z).2.2.1 x c e rfl
    by_cases hc : c ∈ X.fs
    · obtain ⟨sl, q⟩ := slot c o (I.cne x c e) hc nch ho (I.freeC x c e)
      exact ⟨_, q, hd⟩
    · exact ⟨o, keep c o (I.cne x c e) hc nch ho (I.freeC x c e), hd⟩
  refine ⟨I.ok, I.os, hg, ⟨fun b o e n hb hx => ?_, fun b o e n hb hx => ?_, fun b o e n hx => ?_, fun b o e hx => ?_, fun b xs e => tups b xs (I.base.tups b xs e), fun b o xs e => frzs b o xs (I.base.frzs b o xs e), fun b ps e => ?_⟩, ?_, fun x c e => ?_, ?_, fun x c e => ?_, fun p hp => ?_, hok, I.len⟩
  · exact keep b o (neL b o e) hb (neC b o e hx) (I.base.keep b o e n hb hx) (I.base.free b o e n hx)
  · obtain ⟨sl, e1⟩ := I.base.slot b o e n hb hx
    obtain ⟨sl', e2⟩ := slot b _ (neL b o e) hb (neC b o e hx) e1 (I.base.free b o e n hx)
    exact ⟨sl', e2⟩
  · obtain ⟨o', e1⟩ := I.base.there b o e hx
    exact free b o' (neC b o e hx) e1 (I.base.free b o e n hx)
  · obtain ⟨o', e1⟩ := I.base.there b o e hx
    exact there b o' (neC b o e hx) e1
  · obtain ⟨m1, e1⟩ := I.base.tbls b ps e
    obtain ⟨m2, e2⟩ := tbls b _ e1
    exact ⟨m1 ++ m2, by rw [e2, Array.append_assoc]⟩
  · obtain ⟨m, hn, hl⟩ := I.loc
    refine ⟨m, ns m hn, fun i x v e1 e2 e3 => ?_⟩
    obtain ⟨u, r, l⟩ := hl i x v e1 e2 e3
    refine ⟨u, r, ?_⟩
    rcases l with l | ⟨k, c, e, z⟩
    · exact .inl l
    · exact .inr ⟨k, c, e, cellK x c e _ z⟩
  · obtain ⟨v, z⟩ := I.cell x c e
    exact ⟨v, cellK x c e v z⟩
  · obtain ⟨m, ⟨o, _, _, ho, _⟩, _⟩ := I.loc
    exact free _ o (fun z => (hch _ z).2.1 rfl) ho I.free
  · obtain ⟨v, o, ho, hd⟩ := I.cell x c e
    exact free c o (fun z => (hch c z).2.2.1 x c e rfl) ho (I.freeC x c e)
  · obtain ⟨e, n, ne, nf, d⟩ := I.pin p hp
    have nch : p.1 ∉ ch := fun z => (hch p.1 z).2.2.2 p hp rfl
    exact ⟨keep p.1 p.2 ne nf nch e n, free p.1 p.2 nch e n, ne, nf, d⟩
theorem Inv.un {t' : Nat} (I : Inv X pins σ H s) (u : Un X.fs [] H H' s.heap h') (hok : HOk X.prog X.w H' h') : Inv X pins σ H' { s with heap := h', toks := t' } := by
  obtain ⟨m, ⟨o, es, ep, ho, r⟩, _⟩ := id I.loc
  obtain ⟨sl, hL⟩ := u.any ho I.free (by simp)
  exact I.step (g' := s.gens) (d' := s.drawn) (ch := []) (fun _ z => nomatch z) (fun b o _ hb _ e n => u.keep b o e n hb (by simp)) (fun b o _ hb _ e n => u.slot b o e n hb (by simp)) (fun b o _ e n => u.free b o e n (by simp)) (fun b o _ e => u.there b o e (by simp)) u.tups u.frzs u.tbls (fun m' hm => by
    obtain ⟨o', es', ep', ho', r'⟩ := hm
    rw [ho] at ho'; cases ho'
    exact ⟨_, es', ep', hL, r'⟩) hok I.bare
theorem Inv.call {g' : Array GenState} {t' : Nat} {d' : Drawn} {ch : List Addr} (I : Inv X pins σ H s) (u : Un (frs X.stack) ch H H' s.heap h') (hok : HOk X.prog X.w H' h') (hg : AllBare g')
    (hch : ∀ b ∈ ch, (b ∈ X.ex ∨ X.s₀.heap.objs.size ≤ b) ∧ b ≠ X.env.locals ∧ (∀ x c, X.env.cells.lookup x = some c → c ≠ b) ∧ ∀ p ∈ X.pn ++ pins, p.1 ≠ b) :
    Inv X pins σ H' { s with heap := h', gens := g', drawn := d', toks := t' } := by
  obtain ⟨m, ⟨o, es, ep, ho, r⟩, _⟩ := id I.loc
  obtain ⟨sl, hL⟩ := u.any ho I.free fun z => (hch _ z).2.1 rfl
  exact I.step (ch := ch) hch (fun b o hL hb hc e n => u.keep b o e n (fun z => (List.mem_cons.mp (I.stkSub b z)).elim hL hb) hc) (fun b o _ _ hc e n => u.any e n hc) (fun b o hc e n => u.free b o e n hc) (fun b o hc e => u.there b o e hc) u.tups u.frzs u.tbls (fun m' hm => by
    obtain ⟨o', es', ep', ho', r'⟩ := hm
    rw [ho] at ho'; cases ho'
    exact ⟨_, es', ep', hL, r'⟩) hok hg
theorem Inv.turned {t' : Nat} {it : Addr} (I : Inv X pins σ H s) (k : ∀ b o, b ≠ it → s.heap.get? b = some o → h'.get? b = some o) (hn : H it = none) (hL : it ≠ X.env.locals)
    (h1 : it ∈ X.ex ∨ X.s₀.heap.objs.size ≤ it) (h2 : ∀ x c, X.env.cells.lookup x = some c → c ≠ it) (h3 : ∀ p ∈ X.pn ++ pins, p.1 ≠ it) : Inv X pins σ H { s with heap := h', toks := t' } := by
  have nit : ∀ b u, H b = some u → b ≠ it := fun b u e z => by rw [z, hn] at e; cases e
  refine I.step (g' := s.gens) (d' := s.drawn) (ch := [it]) (fun b hb => ?_) (fun b o _ _ hc e _ => k b o (fun z => hc (by simp [z])) e) (fun b o _ _ hc e _ => ⟨o.slots, k b o (fun z => hc (by simp [z])) e⟩) (fun _ _ _ _ n => n)
    (fun b o hc e => ⟨o, k b o (fun z => hc (by simp [z])) e⟩) (fun _ _ e => e) (fun _ _ _ e => e) (fun b ps e => ⟨#[], by rw [e]; simp⟩) (fun m hm => ?_) (fun b u e => ?_) I.bare
  · have e : b = it := by simpa using hb
    subst e
    exact ⟨h1, hL, h2, h3⟩
  · obtain ⟨o, es, ep, ho, r⟩ := hm
    exact ⟨o, es, ep, k _ o (Ne.symm hL) ho, r⟩
  · refine (I.hok b u e).stay (fun c v hc q => k c v ?_ q) (fun _ q => q) fun _ _ q => q
    rcases hc with z | z
    · rw [z]; exact nit b u e
    · exact nit c _ z
theorem Inv.tok (I : Inv X pins σ H s) (t : Nat) : Inv X pins σ H { s with toks := t } := I.un (h' := s.heap) (t' := t) Un.refl I.hok
theorem Inv.kept {t' : Nat} (I : Inv X pins σ H s) (k : ∀ b u, s.heap.get? b = some u → h'.get? b = some u) : Inv X pins σ H { s with heap := h', toks := t' } := I.un (Un.kept k) (I.hok.kept k)
theorem Inv.laid {a : Addr} {o : HO} {t' : Nat} (I : Inv X pins σ H s) (k : ∀ b u, s.heap.get? b = some u → h'.get? b = some u) (hp : s.heap.objs.size ≤ a) (new : ObjOk X.prog X.w (upd H a o) h' a o) :
    Inv X pins σ (upd H a o) { s with heap := h', toks := t' } := I.un (Un.laid k hp (I.hok.fresh hp)) (I.hok.laid k hp new)
theorem Inv.write {x e : Addr} {o : HO} {t' : Nat} (I : Inv X pins σ H s) (mu : Mut (H x)) (he : e = x ∨ H e = some (.own x)) (k : ∀ b u, b ≠ e → s.heap.get? b = some u → h'.get? b = some u) (heo : ∃ u, h'.get? e = some u)
    (new : ObjOk X.prog X.w (upd H x o) h' x o) : Inv X pins σ (upd H x o) { s with heap := h', toks := t' } := I.un (Un.write mu he k heo) (I.hok.write mu he k heo new)
theorem Inv.pins_of {pins' : List (Addr × Obj)} (I : Inv X pins σ H s) (h : ∀ p ∈ pins', s.heap.get? p.1 = some p.2 ∧ H p.1 = none ∧ p.1 ≠ X.env.locals ∧ p.1 ∉ X.fs ∧ ∀ v, p.2.data ≠ .cell v) : Inv X pins' σ H s :=
  ⟨I.ok, I.os, I.bare, I.base, I.loc, I.cell, I.free, I.freeC, fun p hp => (List.mem_append.mp hp).elim (fun z => I.pin p (List.mem_append_left _ z)) (h p), I.hok, I.len⟩

theorem nodup_ix {N : List Str} (hN : N.Nodup) {i j : Nat} {x : Str} (a : N[i]? = some x) (b : N[j]? = some x) : i = j := by
  obtain ⟨h1, e1⟩ := List.getElem?_eq_some_iff.mp a
  obtain ⟨h2, e2⟩ := List.getElem?_eq_some_iff.mp b
  exact (List.getElem_inj hN).mp (e1.trans e2.symm)

theorem store_ok2 {M : Model} {A : Around} {E : Value → Shared → Prop} {i : Nat} {x : Str} {v : V} {u : Value} {Q : Unit → Shared → Prop} (I : Inv X pins σ H s) (hN : X.N.Nodup) (hi : X.N[i]? = some x) (hx : Loc X.env.scope x) (r : RelV v u)
    (h : ∀ s', Inv X pins (σ.set i (some v)) H s' → (∃ a, Heap.SameBut a s.heap s'.heap ∧ (a = X.env.locals ∨ X.env.cells.lookup x = some a)) → Q () s') (hf : X.fn x = true ∨ X.env.scope.names.lookup x = some .local := by first | exact .inl rfl | exact .inr rfl | assumption) : wpAny M A (storeName X.env x u) Q E s := by
  obtain ⟨m, hn, hl⟩ := id I.loc
  have hcls : (X.env.scope.kind == .class || (X.env.scope.kind == .module && X.env.locals != X.env.globals)) = false := by rw [I.ok.kind]; rfl
  have hiσ : i < σ.length := by rw [I.len]; exact (List.getElem?_eq_some_iff.mp hi).1
  have cne := I.cne
  have tracked : ∀ {a : Addr} {h' : Heap}, (∃ o, s.heap.get? a = some o ∧ H a = none) → Heap.SameBut a s.heap h' → HOk X.prog X.w H h' := fun {a h'} ha hs b ob e => by
    obtain ⟨_, _, hfree⟩ := ha
    refine (I.hok b ob e).stay (fun c w' hc q => (hs.2 c ?_).trans q) (fun _ q => q) fun _ _ q => q
    rintro rfl
    rcases hc with rfl | hc
    · rw [hfree] at e; cases e
    · rw [hfree] at hc; cases hc
  rcases hx with hk | hk
  · refine wpAny_storeName_local hk hn (fun h' hn' hs => ?_) hcls
    obtain ⟨oL, _, _, hoL, _⟩ := id hn
    refine h _ ⟨I.ok, I.os, I.bare, ⟨fun b o e n hb hx => ?_, fun b o e n hb hx => ?_, I.base.free, fun b o e hx => ?_, I.base.tups, I.base.frzs, I.base.tbls⟩, ⟨_, hn', fun j y v' e1 e2 e3 => ?_⟩, fun y c e => ?_, I.free, I.freeC, fun p hp => ?_, tracked ⟨oL, hoL, I.free⟩ hs, by simpa using I.len⟩ ⟨_, hs, .inl rfl⟩
    · exact (hs.2 b (Nat.ne_of_lt (Nat.lt_of_lt_of_le (Heap.lt_size e) I.ok.above))).trans (I.base.keep b o e n hb hx)
    · obtain ⟨sl, e1⟩ := I.base.slot b o e n hb hx
      exact ⟨sl, (hs.2 b (Nat.ne_of_lt (Nat.lt_of_lt_of_le (Heap.lt_size e) I.ok.above))).trans e1⟩
    · obtain ⟨o', e1⟩ := I.base.there b o e hx
      exact ⟨o', (hs.2 b (Nat.ne_of_lt (Nat.lt_of_lt_of_le (Heap.lt_size e) I.ok.above))).trans e1⟩
    · by_cases hj : j = i
      · subst hj
        rw [hi] at e1; cases e1
        rw [List.getElem?_set_self hiσ] at e2
        cases e2
        exact ⟨u, r, .inl ⟨hk, by simp⟩⟩
      · rw [List.getElem?_set_ne (Ne.symm hj)] at e2
        obtain ⟨u', r', q⟩ := hl j y v' e1 e2 e3
        refine ⟨u', r', ?_⟩
        rcases q with ⟨k, e⟩ | ⟨k, c, e, z⟩
        · refine .inl ⟨k, ?_⟩
          have : y ≠ x := fun e => hj (nodup_ix hN e1 (e ▸ hi))
          simp [this, e]
        · exact .inr ⟨k, c, e, z.sameBut hs (cne y c e)⟩
    · obtain ⟨w', z⟩ := I.cell y c e
      exact ⟨w', z.sameBut hs (cne y c e)⟩
    · obtain ⟨e, n, ne, nf, d⟩ := I.pin p hp
      exact ⟨(hs.2 p.1 ne).trans e, n, ne, nf, d⟩
  · have hfn : X.fn x = true := by
      rcases hf with z | z
      · exact z
      · rw [z] at hk; cases hk
    obtain ⟨c, hc⟩ := I.ok.has x (.inl hk)
    obtain ⟨w', z⟩ := I.cell x c hc
    refine wpAny_storeName_cell I.ok.kind hk hc z (fun h' hc' hs => ?_)
    obtain ⟨oc, hoc, hocd⟩ := id z
    refine h { s with heap := h' } ⟨I.ok, I.os, I.bare, ⟨fun b o e n hb hx => ?_, fun b o e n hb hx => ?_, I.base.free, fun b o e hx => ?_, I.base.tups, I.base.frzs, I.base.tbls⟩, ⟨m, hn.sameBut hs (Ne.symm (cne x c hc)), fun j y v' e1 e2 e3 => ?_⟩, fun y c' e => ?_, I.free, I.freeC, fun p hp => ?_, tracked ⟨oc, hoc, I.freeC x c hc⟩ hs, by simpa using I.len⟩ ⟨c, hs, .inr hc⟩
    · exact (hs.2 b (Nat.ne_of_lt (Nat.lt_of_lt_of_le (Heap.lt_size e) (I.ok.cab x c hfn hc)))).trans (I.base.keep b o e n hb hx)
    · obtain ⟨sl, e1⟩ := I.base.slot b o e n hb hx
      exact ⟨sl, (hs.2 b (Nat.ne_of_lt (Nat.lt_of_lt_of_le (Heap.lt_size e) (I.ok.cab x c hfn hc)))).trans e1⟩
    · obtain ⟨o', e1⟩ := I.base.there b o e hx
      exact ⟨o', (hs.2 b (Nat.ne_of_lt (Nat.lt_of_lt_of_le (Heap.lt_size e) (I.ok.cab x c hfn hc)))).trans e1⟩
    · by_cases hj : j = i
      · subst hj
        rw [hi] at e1; cases e1
        rw [List.getElem?_set_self hiσ] at e2
        cases e2
        exact ⟨u, r, .inr ⟨.inl hk, c, hc, hc'⟩⟩
      · rw [List.getElem?_set_ne (Ne.symm hj)] at e2
        obtain ⟨u', r', q⟩ := hl j y v' e1 e2 e3
        refine ⟨u', r', ?_⟩
        rcases q with q | ⟨k, c', e, z'⟩
        · exact .inl q
        · refine .inr ⟨k, c', e, z'.sameBut hs ?_⟩
          rintro rfl
          exact hj (nodup_ix hN e1 (I.ok.inj _ _ _ e hc ▸ hi))
    · by_cases hcc : c' = c
      · subst hcc; exact ⟨_, hc'⟩
      · obtain ⟨w2, z2⟩ := I.cell y c' e
        exact ⟨w2, z2.sameBut hs hcc⟩
    · obtain ⟨e, n, ne, nf, d⟩ := I.pin p hp
      refine ⟨(hs.2 p.1 ?_).trans e, n, ne, nf, d⟩
      intro q
      rw [q, hoc] at e
      have q' : oc = p.2 := Option.some.inj e
      exact d w' (by rw [← q']; exact hocd)
theorem store_ok {M : Model} {A : Around} {E : Value → Shared → Prop} {i : Nat} {x : Str} {v : V} {u : Value} {Q : Unit → Shared → Prop} (I : Inv X pins σ H s) (hN : X.N.Nodup) (hi : X.N[i]? = some x) (hx : Loc X.env.scope x) (r : RelV v u)
    (h : ∀ s', Inv X pins (σ.set i (some v)) H s' → Q () s') (hf : X.fn x = true ∨ X.env.scope.names.lookup x = some .local := by first | exact .inl rfl | exact .inr rfl | assumption) : wpAny M A (storeName X.env x u) Q E s :=
  store_ok2 I hN hi hx r (fun s' I' _ => h s' I') hf
theorem Inv.call' {s' : Shared} {ch : List Addr} (I : Inv X pins σ H s) (ho : s'.os = s.os) (u : Un (frs X.stack) ch H H' s.heap s'.heap) (hok : HOk X.prog X.w H' s'.heap) (hg : AllBare s'.gens)
    (hch : ∀ b ∈ ch, (b ∈ X.ex ∨ X.s₀.heap.objs.size ≤ b) ∧ b ≠ X.env.locals ∧ (∀ x c, X.env.cells.lookup x = some c → c ≠ b) ∧ ∀ p ∈ X.pn ++ pins, p.1 ≠ b) : Inv X pins σ H' s' := by
  obtain ⟨h', g', d', t', o'⟩ := s'
  have e : o' = s.os := ho
  subst e
  exact I.call (g' := g') (t' := t') (d' := d') u hok hg hch
end

abbrev XK := Value → Option Addr → Hp → Prop
abbrev St := List (Option V)
abbrev VK := V → Hp → Prop
abbrev TE := St → Hp → VK → Prop
abbrev TT := St → Hp → (Bool → Hp → Prop) → Prop
abbrev TA := St → Hp → (List V → Hp → Prop) → Prop
structure Ends where
  nx : St → Hp → Prop
  rt : VK
  bk : St → Hp → Prop := fun _ _ => False
  ct : St → Hp → Prop := fun _ _ => False
abbrev TS := Ends → St → Hp → Prop

def EP (X : Cx) (pins : List (Addr × Obj)) (σ : St) (Q : VK) (u : Value) (s' : Shared) : Prop := ∃ v H', Inv X pins σ H' s' ∧ RelV v u ∧ Q v H'
def TP (X : Cx) (pins : List (Addr × Obj)) (σ : St) (Q : Bool → Hp → Prop) (b : Bool) (s' : Shared) : Prop := ∃ H', Inv X pins σ H' s' ∧ Q b H'
def AP (X : Cx) (pins : List (Addr × Obj)) (σ : St) (Q : List V → Hp → Prop) (us : List Value) (s' : Shared) : Prop := ∃ vs H', Inv X pins σ H' s' ∧ Vals vs us ∧ Q vs H'
def SP (X : Cx) (pins : List (Addr × Obj)) (D : Ends) (f : Flow) (s' : Shared) : Prop :=
  match f with
  | .next => ∃ σ' H', Inv X pins σ' H' s' ∧ D.nx σ' H'
  | .brk => ∃ σ' H', Inv X pins σ' H' s' ∧ D.bk σ' H'
  | .cont => ∃ σ' H', Inv X pins σ' H' s' ∧ D.ct σ' H'
  | .ret u => ∃ v σ' H', Inv X pins σ' H' s' ∧ RelV v u ∧ D.rt v H'

def PE (X : Cx) (e : Expr) (t : TE) : Prop :=
  ∀ (pins : List (Addr × Obj)) (s : Shared) (σ : St) (H : Hp) (Q : VK), Inv X pins σ H s → t σ H Q → wpAny (model X.prog X.w) X.A (eval e X.env) (EP X pins σ Q) X.xe s
def PT (X : Cx) (e : Expr) (t : TT) : Prop :=
  ∀ (pins : List (Addr × Obj)) (s : Shared) (σ : St) (H : Hp) (Q : Bool → Hp → Prop), Inv X pins σ H s → t σ H Q → wpAny (model X.prog X.w) X.A (isTrue e X.env (eval e X.env)) (TP X pins σ Q) X.xe s
def PW (X : Cx) (e : Expr) (t : TT) : Prop :=
  ∀ (whole : Sem Value) (pins : List (Addr × Obj)) (s : Shared) (σ : St) (H : Hp) (Q : Bool → Hp → Prop), Inv X pins σ H s → t σ H Q → wpAny (model X.prog X.w) X.A (isTrue e X.env whole) (TP X pins σ Q) X.xe s
theorem PW.pt {X : Cx} {e : Expr} {t : TT} (h : PW X e t) : PT X e t := h _
def PA (X : Cx) (es : List Expr) (t : TA) : Prop :=
  ∀ (pos : Pos) (pins : List (Addr × Obj)) (s : Shared) (σ : St) (H : Hp) (Q : List V → Hp → Prop), Inv X pins σ H s → t σ H Q → wpAny (model X.prog X.w) X.A (spliced (backTo pos (starEach es X.env))) (AP X pins σ Q) X.xe s
def PS (X : Cx) (st : Stmt) (t : TS) : Prop :=
  ∀ (pins : List (Addr × Obj)) (s : Shared) (σ : St) (H : Hp) (D : Ends), Inv X pins σ H s → t D σ H → wpAny (model X.prog X.w) X.A (exec st X.env) (SP X pins D) X.xe s
def PSs (X : Cx) (st : List Stmt) (t : TS) : Prop :=
  ∀ (pins : List (Addr × Obj)) (s : Shared) (σ : St) (H : Hp) (D : Ends), Inv X pins σ H s → t D σ H → wpAny (model X.prog X.w) X.A (execs st X.env) (SP X pins D) X.xe s
theorem thn {α : Type} {t : Sem α} {Q Q' : α → Shared → Prop} {M : Model} {A : Around} {E : Value → Shared → Prop} {s : Shared} (h : wpAny M A t Q E s) (hQ : ∀ a s, Q a s → Q' a s) : wpAny M A t Q' E s := wpAny_mono h hQ fun _ _ x => x
end L2

namespace L2
open PySem PySem.Spec PyProof.Rows
section
variable {X : Cx}

def tVar (i : Nat) : TE := fun σ H Q => ∃ v, σ[i]? = some (some v) ∧ Q v H
def tC (v : V) : TE := fun _ H Q => Q v H
theorem pe_var {i : Nat} {x : Str} {pos : Pos} (hN : X.N[i]? = some x) (hv : Vis X.env.scope x) (hd : (x == ("__debug__" : Str)) = false := by decide) (hcd : (x == ("__classdict__" : Str)) = false := by decide) : PE X (.Name x pos) (tVar i) := by
  intro pins s σ H Q I h
  obtain ⟨v, e, h⟩ := h
  obtain ⟨m, hn, hl⟩ := I.loc
  obtain ⟨u, r, l⟩ := hl i x v hN e hv
  have fin : EP X pins σ Q u s := ⟨v, H, I, r, h⟩
  rcases l with ⟨hk, hm⟩ | ⟨hk, c, hc, hcell⟩
  · exact wpAny_Name (wpAny_loadName_local I.ok.kind hk hn hm fin) hd
  · rcases hk with hk | hk
    · exact wpAny_Name (wpAny_loadName_cell I.ok.kind hk hc hcell fin) hd
    · exact wpAny_Name (wpAny_loadName_free I.ok.kind hk hc hcell fin hcd) hd
theorem pe_int {i j pos} : PE X (.Constant (.int i) j pos) (tC (.int i)) := fun _ _ _ H _ I h => wpAny_Constant_int ⟨.int i, H, I.tok _, ⟨_, rfl⟩, h⟩
theorem pe_bl {b j pos} : PE X (.Constant (.bool b) j pos) (tC (.bl b)) := fun _ _ _ H _ I h => Constant_bool ⟨.bl b, H, I, rfl, h⟩
theorem pe_str {x j pos} : PE X (.Constant (.str x) j pos) (tC (.str x)) := fun _ _ _ H _ I h => Calls.Constant_str ⟨.str x, H, I.tok _, ⟨_, rfl⟩, h⟩

def Gl (X : Cx) (x : Str) : Prop := X.env.kindOf x = some .globalImplicit
theorem ld_glob {E : Value → Shared → Prop} {pins : List (Addr × Obj)} {s : Shared} {σ : St} {H : Hp} {x : Str} {u : Value} {pos : Pos} {Q : Value → Shared → Prop} (I : Inv X pins σ H s) (hg : Gl X x) (hm : X.mg x = some u) (h : Q u s)
    (hd : (x == ("__debug__" : Str)) = false := by decide) : wpAny (model X.prog X.w) X.A (eval (.Name x pos) X.env) Q E s :=
  Calls.Name_function_global I.ok.kind hg (Calls.loadGlobal_global (by rw [I.ok.glob]; exact I.mod.glob.keeps I.bk) hm h) hd
theorem ld_blt {E : Value → Shared → Prop} {pins : List (Addr × Obj)} {s : Shared} {σ : St} {H : Hp} {x : Str} {u : Value} {pos : Pos} {Q : Value → Shared → Prop} (I : Inv X pins σ H s) (hg : Gl X x) (hm : X.mg x = none) (hv : bootBuiltins x = some u) (h : Q u s)
    (hn : x ≠ "__name__" := by decide) (hd : (x == ("__debug__" : Str)) = false := by decide) : wpAny (model X.prog X.w) X.A (eval (.Name x pos) X.env) Q E s := by
  obtain ⟨mb, h1, h2⟩ := I.mod.blt
  exact Calls.Name_function_global I.ok.kind hg (Calls.loadGlobal_builtin (by rw [I.ok.glob]; exact I.mod.glob.keeps I.bk) hm (by rw [I.ok.blt]; exact h1.keeps I.bk) ((h2 x hn).trans hv) h) hd
theorem pe_glob {x : Str} {v : V} {u : Value} {pos : Pos} (hg : Gl X x) (hm : X.mg x = some u) (r : RelV v u) (hd : (x == ("__debug__" : Str)) = false := by decide) : PE X (.Name x pos) (tC v) :=
  fun _ _ _ H _ I h => ld_glob I hg hm ⟨v, H, I, r, h⟩ hd
theorem pe_bltn {x : Str} {v : V} {u : Value} {pos : Pos} (hg : Gl X x) (hm : X.mg x = none) (hv : bootBuiltins x = some u) (r : RelV v u) (hn : x ≠ "__name__" := by decide) (hd : (x == ("__debug__" : Str)) = false := by decide) : PE X (.Name x pos) (tC v) :=
  fun _ _ _ H _ I h => ld_blt I hg hm hv ⟨v, H, I, r, h⟩ hn hd

variable {a b : Expr} {ta tb : TE} {pos : Pos}
def tB (t : TE) : TT := fun σ H Q => t σ H fun x H1 => ∃ c, x = .bl c ∧ Q c H1
theorem pt_val {e : Expr} {t : TE} (h : PE X e t) (he : ∀ whole, isTrue e X.env whole = (do let v ← whole; standAt e.pos; holding [v] (truthy v)) := by intro _; rfl) : PT X e (tB t) := by
  intro pins s σ H Q I hw
  refine isTrue_plain (thn (h pins s σ H _ I hw) fun v s1 ⟨x, H1, I1, r1, q1⟩ => ?_) (he _)
  obtain ⟨d, rfl, q⟩ := q1
  cases r1
  exact wpAny_truthy_bool ⟨H1, I1, q⟩

variable {tA tB' : TT} {rest : List Expr}
def tAnd (t u : TT) : TT := fun σ H Q => t σ H fun c H1 => if c = true then u σ H1 Q else Q false H1
def tOr (t u : TT) : TT := fun σ H Q => t σ H fun c H1 => if c = true then Q true H1 else u σ H1 Q
def tNot (t : TT) : TT := fun σ H Q => t σ H fun c H1 => Q (!c) H1
theorem pw_and1 (ha : PT X a tA) : PW X (.BoolOp .And [a] pos) tA := by
  intro wh pins s σ H Q I h
  refine isTrue_and (thn (ha pins s σ H Q I h) fun c s1 e => ?_)
  cases c with
  | true => exact isTrue_and_nil e
  | false => exact e
theorem pw_or1 (ha : PT X a tA) : PW X (.BoolOp .Or [a] pos) tA := by
  intro wh pins s σ H Q I h
  refine isTrue_or (thn (ha pins s σ H Q I h) fun c s1 e => ?_)
  cases c with
  | false => exact isTrue_or_nil e
  | true => exact e
theorem pw_and (ha : PT X a tA) (hb : PW X (.BoolOp .And (b :: rest) pos) tB') : PW X (.BoolOp .And (a :: b :: rest) pos) (tAnd tA tB') := by
  intro wh pins s σ H Q I h
  refine isTrue_and (thn (ha pins s σ H _ I h) fun c s1 ⟨H1, I1, q1⟩ => ?_)
  cases c with
  | true => exact hb wh pins s1 σ H1 Q I1 q1
  | false => exact ⟨H1, I1, q1⟩
theorem pw_or (ha : PT X a tA) (hb : PW X (.BoolOp .Or (b :: rest) pos) tB') : PW X (.BoolOp .Or (a :: b :: rest) pos) (tOr tA tB') := by
  intro wh pins s σ H Q I h
  refine isTrue_or (thn (ha pins s σ H _ I h) fun c s1 ⟨H1, I1, q1⟩ => ?_)
  cases c with
  | true => exact ⟨H1, I1, q1⟩
  | false => exact hb wh pins s1 σ H1 Q I1 q1
theorem pt_not (ha : PT X a tA) : PT X (.UnaryOp .Not a pos) (tNot tA) := by
  intro pins s σ H Q I h
  exact isTrue_not (ha pins s σ H (fun c H1 => Q (!c) H1) I h)
def tAndV (ta tb : TE) : TE := fun σ H Q => ta σ H fun x H1 => ∃ c, x = .bl c ∧ if c = true then tb σ H1 Q else Q (.bl false) H1
def tOrV (ta tb : TE) : TE := fun σ H Q => ta σ H fun x H1 => ∃ c, x = .bl c ∧ if c = true then Q (.bl true) H1 else tb σ H1 Q
theorem pe_one {op} {t : TE} (h : PE X a t) : PE X (.BoolOp op [a] pos) t := fun pins s σ H Q I hw => BoolOp_one (h pins s σ H Q I hw)
theorem pe_and (ha : PE X a ta) (hb : PE X (.BoolOp .And (b :: rest) pos) tb) : PE X (.BoolOp .And (a :: b :: rest) pos) (tAndV ta tb) := by
  intro pins s σ H Q I h
  refine BoolOp_and (thn (ha pins s σ H _ I h) fun v s1 ⟨x, H1, I1, r1, q1⟩ => ?_)
  obtain ⟨c, rfl, q1⟩ := q1
  cases r1
  refine wpAny_truthy_bool ?_
  cases c with
  | true => exact hb pins s1 σ H1 Q I1 q1
  | false => exact ⟨.bl false, H1, I1, rfl, q1⟩
theorem pe_or (ha : PE X a ta) (hb : PE X (.BoolOp .Or (b :: rest) pos) tb) : PE X (.BoolOp .Or (a :: b :: rest) pos) (tOrV ta tb) := by
  intro pins s σ H Q I h
  refine BoolOp_or (thn (ha pins s σ H _ I h) fun v s1 ⟨x, H1, I1, r1, q1⟩ => ?_)
  obtain ⟨c, rfl, q1⟩ := q1
  cases r1
  refine wpAny_truthy_bool ?_
  cases c with
  | false => exact hb pins s1 σ H1 Q I1 q1
  | true => exact ⟨.bl true, H1, I1, rfl, q1⟩
end
end L2

namespace L2
open PySem PySem.Spec PyProof.Rows

def SqL (K : PySem.W.Frag) (H : Hp) (a : Addr) (xs : List V) : Prop :=
  Rd H a (.lst xs) ∨
    ∃ (o : Obj) (its : Array Value) (n : Nat), K.lookup a = some o ∧ o.cls = .type "list" ∧ o.dict = none ∧ o.data = .seq its n ∧ its.size ≤ sizeLine ∧ Vals xs its.toList
def SqT (K : PySem.W.Frag) (H : Hp) (a : Addr) (xs : List V) : Prop :=
  Rd H a (.tup xs) ∨
    ∃ (o : Obj) (its : Array Value) (n : Nat), K.lookup a = some o ∧ o.cls = .type "tuple" ∧ o.data = .seq its n ∧ its.size ≤ sizeLine ∧ Vals xs its.toList
def absV : Value → Option V
  | .none => some .non
  | .bool b => some (.bl b)
  | .int i _ => some (.int i)
  | .str x _ => some (.str x)
  | .bytes b _ => some (.byt b)
  | .float b _ => some (.flt b)
  | .ref a => some (.ref a)
  | .type n => some (.ty n)
  | _ => none
theorem RelV.abs {x : V} {u : Value} (r : RelV x u) : absV u = some x := by
  cases x with
  | non => cases r; rfl
  | bl _ => cases r; rfl
  | int _ => obtain ⟨t, rfl⟩ := r; rfl
  | str _ => obtain ⟨t, rfl⟩ := r; rfl
  | byt _ => obtain ⟨t, rfl⟩ := r; rfl
  | flt _ => obtain ⟨t, rfl⟩ := r; rfl
  | ref _ => cases r; rfl
  | ty _ => cases r; rfl
theorem RelV.inj {x y : V} {u : Value} (r : RelV x u) (q : RelV y u) : x = y := Option.some.inj (r.abs.symm.trans q.abs)
theorem Vals.inj : ∀ {xs ys : List V} {us : List Value}, Vals xs us → Vals ys us → xs = ys
  | _, _, _, .nil, .nil => rfl
  | _, _, _, .cons r t, .cons r' t' => by rw [r.inj r', Vals.inj t t']
section
variable {X : Cx} {pins : List (Addr × Obj)} {σ : St} {H : Hp} {s : Shared} {a : Addr} {xs ys : List V}
theorem SqL.of {K : PySem.W.Frag} (h : H a = some (.lst xs)) : SqL K H a xs := .inl (.inl h)
theorem SqT.of {K : PySem.W.Frag} (h : H a = some (.tup xs)) : SqT K H a xs := .inl (.inl h)
theorem Inv.list (I : Inv X pins σ H s) (h : SqL X.K H a xs) : ∃ its : List Value, Vals xs its ∧ PlainL s.heap a its.toArray ∧ xs.length ≤ sizeLine := by
  rcases h with h | ⟨o, its, n, hk, hc, hd, hs, hz, r⟩
  · obtain ⟨z, its, n, r, e⟩ := h.ok I.hok
    exact ⟨its, r, ⟨_, n, e, rfl, rfl, rfl⟩, z⟩
  · refine ⟨its.toList, r, ⟨o, n, I.kIn a o hk, hc, hd, by simpa using hs⟩, ?_⟩
    have e := r.length
    simp only [Array.length_toList] at e
    omega
theorem Inv.tuple (I : Inv X pins σ H s) (h : SqT X.K H a xs) : ∃ its : List Value, Vals xs its ∧ IsTup s.heap a its.toArray ∧ xs.length ≤ sizeLine := by
  rcases h with h | ⟨o, its, n, hk, hc, hs, hz, r⟩
  · obtain ⟨z, its, r, p⟩ := h.ok I.hok
    exact ⟨its, r, p, z⟩
  · refine ⟨its.toList, r, ⟨o, I.kIn a o hk, hc, n, by simpa using hs⟩, ?_⟩
    have e := r.length
    simp only [Array.length_toList] at e
    omega
theorem Inv.list_inj (I : Inv X pins σ H s) (h : SqL X.K H a xs) (h' : SqL X.K H a ys) : xs = ys := by
  obtain ⟨its, r, ⟨o, n, e, _, _, d⟩, _⟩ := I.list h
  obtain ⟨its', r', ⟨o', n', e', _, _, d'⟩, _⟩ := I.list h'
  rw [e] at e'; cases e'
  rw [d] at d'
  injection d' with d1 _
  have : its = its' := by simpa using congrArg Array.toList d1
  subst this
  exact r.inj r'
theorem Inv.tuple_inj (I : Inv X pins σ H s) (h : SqT X.K H a xs) (h' : SqT X.K H a ys) : xs = ys := by
  obtain ⟨its, r, ⟨o, e, _, n, d⟩, _⟩ := I.tuple h
  obtain ⟨its', r', ⟨o', e', _, n', d'⟩, _⟩ := I.tuple h'
  rw [e] at e'; cases e'
  rw [d] at d'
  injection d' with d1 _
  have : its = its' := by simpa using congrArg Array.toList d1
  subst this
  exact r.inj r'
end

abbrev Cx.wish (X : Cx) (E : Value → Shared → Prop) : Cx := { X with xe := E }
abbrev Cx.nox (X : Cx) : Cx := X.wish fun _ _ => False
theorem Cx.Ok.wish {X : Cx} (ok : X.Ok) (E : Value → Shared → Prop) : (X.wish E).Ok :=
  ⟨ok.mod, ok.kind, ok.glob, ok.blt, ok.above, ok.inj, ok.has, ok.cab, ok.hd, ok.frames, ok.stk, ok.exf, ok.bs, ok.bsz, ok.noex, ok.exfs, ok.funs, ok.frf⟩
theorem Cx.Ok.unwish {X : Cx} {E : Value → Shared → Prop} (ok : (X.wish E).Ok) : X.Ok :=
  ⟨ok.mod, ok.kind, ok.glob, ok.blt, ok.above, ok.inj, ok.has, ok.cab, ok.hd, ok.frames, ok.stk, ok.exf, ok.bs, ok.bsz, ok.noex, ok.exfs, ok.funs, ok.frf⟩
section
variable {X : Cx} {pins : List (Addr × Obj)} {σ : St} {H : Hp} {s : Shared} {E : Value → Shared → Prop}
theorem Inv.wish (I : Inv X pins σ H s) (E : Value → Shared → Prop) : Inv (X.wish E) pins σ H s := ⟨I.ok.wish E, I.os, I.bare, I.base, I.loc, I.cell, I.free, I.freeC, I.pin, I.hok, I.len⟩
theorem Inv.unwish (I : Inv (X.wish E) pins σ H s) : Inv X pins σ H s := ⟨I.ok.unwish, I.os, I.bare, I.base, I.loc, I.cell, I.free, I.freeC, I.pin, I.hok, I.len⟩
theorem SP.unwish {D : Ends} {f : Flow} {s' : Shared} (h : SP (X.wish E) pins D f s') : SP X pins D f s' := by
  cases f with
  | next => obtain ⟨σ', H', I, q⟩ := h; exact ⟨σ', H', I.unwish, q⟩
  | brk => obtain ⟨σ', H', I, q⟩ := h; exact ⟨σ', H', I.unwish, q⟩
  | cont => obtain ⟨σ', H', I, q⟩ := h; exact ⟨σ', H', I.unwish, q⟩
  | ret u => obtain ⟨v, σ', H', I, r, q⟩ := h; exact ⟨v, σ', H', I.unwish, r, q⟩
theorem PE.nox {e : Expr} {t : TE} (h : PE X.nox e t) : PE X e t := fun pins s σ H Q I hw =>
  wpAny_mono (h pins s σ H Q (I.wish _) hw) (fun _ _ ⟨v, H', I', r, q⟩ => ⟨v, H', I'.unwish, r, q⟩) fun _ _ z => False.elim z
theorem PT.nox {e : Expr} {t : TT} (h : PT X.nox e t) : PT X e t := fun pins s σ H Q I hw =>
  wpAny_mono (h pins s σ H Q (I.wish _) hw) (fun _ _ ⟨H', I', q⟩ => ⟨H', I'.unwish, q⟩) fun _ _ z => False.elim z
theorem PSs.nox {st : List Stmt} {t : TS} (h : PSs X.nox st t) : PSs X st t := fun pins s σ H D I hw =>
  wpAny_mono (h pins s σ H D (I.wish _) hw) (fun _ _ q => q.unwish) fun _ _ z => False.elim z
end

section
variable {X : Cx} {st : Stmt} {rest : List Stmt} {t u : TS} {e : Expr} {te : TE} {pos : Pos}
def tNext : TS := fun D σ H => D.nx σ H
def tSeq (t u : TS) : TS := fun D σ H => t { D with nx := u D } σ H
theorem pss_nil : PSs X [] tNext := fun _ _ σ H _ I h => wpAny_execs_nil ⟨σ, H, I, h⟩
theorem pss_cons (h1 : PS X st t) (h2 : PSs X rest u) : PSs X (st :: rest) (tSeq t u) := by
  intro pins s σ H D I h
  refine wpAny_execs_cons (thn (h1 pins s σ H { D with nx := u D } I h) fun f s1 q => ?_)
  cases f with
  | next =>
    obtain ⟨σ', H', I', q⟩ := q
    exact h2 pins s1 σ' H' D I' q
  | ret v => exact q
  | brk => exact q
  | cont => exact q
theorem pss_one (h1 : PS X st t) : PSs X [st] t := by
  intro pins s σ H D I h
  refine wpAny_execs_cons (thn (h1 pins s σ H D I h) fun f s1 q => ?_)
  cases f with
  | next => exact wpAny_execs_nil q
  | ret v => exact q
  | brk => exact q
  | cont => exact q
theorem Inv.quiet {pins : List (Addr × Obj)} {σ : St} {H : Hp} {s : Shared} (I : Inv X pins σ H s) : interactive X.env = false := by simp [interactive, I.ok.kind]
def tDrop (te : TE) : TS := fun D σ H => te σ H fun _ H1 => D.nx σ H1
theorem ps_expr (he : PE X e te) (hs : swapsWith e none pos.line X.env = pure false := by rfl) : PS X (.Expr e pos) (tDrop te) := by
  intro pins s σ H D I h
  exact wpAny_Expr_any (thn (he pins s σ H _ I h) fun v s1 ⟨x, H1, I1, r1, q1⟩ => ⟨σ, H1, I1, q1⟩) I.quiet hs
def tRet (te : TE) : TS := fun D σ H => te σ H D.rt
theorem ps_ret (he : PE X e te) : PS X (.Return (some e) pos) (tRet te) := by
  intro pins s σ H D I h
  exact wpAny_Return_some (thn (he pins s σ H _ I h) fun v s1 ⟨x, H1, I1, r1, q1⟩ => ⟨x, σ, H1, I1, r1, q1⟩)
def tIfS (c : TT) (t u : TS) : TS := fun D σ H => c σ H fun b H1 => if b = true then t D σ H1 else u D σ H1
theorem ps_if {c : Expr} {a b : List Stmt} {tc : TT} (hc : PT X c tc) (ha : PSs X a t) (hb : PSs X b u) : PS X (.If c a b pos) (tIfS tc t u) := by
  intro pins s σ H D I h
  refine wpAny_If (thn (hc pins s σ H _ I h) fun d s1 ⟨H1, I1, q1⟩ => ?_)
  cases d with
  | true => exact ha pins s1 σ H1 D I1 q1
  | false => exact hb pins s1 σ H1 D I1 q1
def tNever : TS := fun _ _ _ => False
theorem ps_never : PS X st tNever := fun _ _ _ _ _ _ h => h.elim
end

abbrev TG := V → St → Hp → (St → Hp → Prop) → Prop
abbrev TGs := List V → St → Hp → (St → Hp → Prop) → Prop
def PG (X : Cx) (target : Expr) (t : TG) : Prop :=
  ∀ (pins : List (Addr × Obj)) (s : Shared) (σ : St) (H : Hp) (v : V) (u : Value) (Q : St → Hp → Prop), Inv X pins σ H s → RelV v u → t v σ H Q →
    wpAny (model X.prog X.w) X.A (assign target X.env u) (fun _ s' => ∃ σ' H', Inv X pins σ' H' s' ∧ Q σ' H') X.xe s
def PGs (X : Cx) (ts : List Expr) (t : TGs) : Prop :=
  ∀ (pins : List (Addr × Obj)) (s : Shared) (σ : St) (H : Hp) (vs : List V) (us : List Value) (Q : St → Hp → Prop), Inv X pins σ H s → Vals vs us → t vs σ H Q →
    wpAny (model X.prog X.w) X.A (assignInOrder ((assignEach ts X.env).map (·.2)) us) (fun _ s' => ∃ σ' H', Inv X pins σ' H' s' ∧ Q σ' H') X.xe s
section
variable {X : Cx} {pos : Pos}
def gName (i : Nat) : TG := fun v σ H Q => Q (σ.set i (some v)) H
theorem pg_name {i : Nat} {x : Str} (hN : X.N.Nodup) (hi : X.N[i]? = some x) (hx : Loc X.env.scope x) (hf : X.fn x = true ∨ X.env.scope.names.lookup x = some .local := by first | exact .inl rfl | exact .inr rfl | assumption) : PG X (.Name x pos) (gName i) := by
  intro pins s σ H v u Q I r h
  exact wpAny_assign_Name (store_ok I hN hi hx r (fun s' I' => ⟨_, H, I', h⟩) hf)
def gNil : TGs := fun vs σ H Q => vs = [] ∧ Q σ H
def gCons (t : TG) (u : TGs) : TGs := fun vs σ H Q => ∃ v r, vs = v :: r ∧ t v σ H fun σ' H' => u r σ' H' Q
theorem pgs_nil : PGs X [] gNil := by
  intro pins s σ H vs us Q I r h
  obtain ⟨e, h⟩ := h
  subst e
  cases r
  exact assignInOrder_nil ⟨σ, H, I, h⟩
theorem pgs_cons {e : Expr} {es : List Expr} {t : TG} {u : TGs} (h1 : PG X e t) (h2 : PGs X es u)
    (hs : (assignEach (e :: es) X.env).map (·.2) = assign e X.env :: (assignEach es X.env).map (·.2) := by rfl) : PGs X (e :: es) (gCons t u) := by
  intro pins s σ H vs us Q I r h
  obtain ⟨v, vr, e1, h⟩ := h
  subst e1
  cases r with
  | cons r rr =>
    rw [hs]
    refine assignInOrder_cons (thn (h1 pins s σ H _ _ _ I r h) fun _ s1 ⟨σ1, H1, I1, q1⟩ => ?_)
    exact h2 pins s1 σ1 H1 _ _ Q I1 rr q1
def gTup (K : PySem.W.Frag) (n : Nat) (t : TGs) : TG := fun v σ H Q => ∃ a xs, v = .ref a ∧ SqT K H a xs ∧ xs.length = n ∧ t xs σ H Q
theorem pg_tup {es : List Expr} {k : Nat} {t : TGs} {n : Nat} (hc : X.calm = true) (h : PGs X es t)
    (hn : (assignEach es X.env).length = n := by rfl) (hst : (assignEach es X.env).findIdx? (·.1) = none := by rfl) : PG X (.Tuple es k pos) (gTup X.K n t) := by
  intro pins s σ H v u Q I r hw
  obtain ⟨a, xs, e1, hq, hl, hw⟩ := hw
  subst e1
  cases r
  obtain ⟨its, rv, ht, hz⟩ := I.tuple hq
  refine assign_Tuple_tuple (I.ok.hd hc) ht (by simp [hn, ← hl, rv.length]) hst fun h' hx => ?_
  have I1 : Inv X pins σ H { s with heap := h' } := I.kept (t' := s.toks) fun b o e => hx b o (Nat.ne_of_lt (Heap.lt_size e)) e
  exact h pins _ σ H xs _ Q I1 (by simpa using rv) hw
def tAsg (te : TE) (g : TG) : TS := fun D σ H => te σ H fun x H1 => g x σ H1 D.nx
theorem ps_asg {tg e : Expr} {te : TE} {g : TG} (he : PE X e te) (hg : PG X tg g) (hs : swapsWithSole [tg] e pos.line X.env = pure false := by rfl) (hw : swappedStores [tg] e X.env = pure none := by rfl)
    (h1 : (assignEach [tg] X.env).map (·.2) = [assign tg X.env] := by rfl) : PS X (.Assign [tg] e pos) (tAsg te g) := by
  intro pins s σ H D I h
  refine wpAny_Assign_stores (thn (he pins s σ H _ I h) fun v s1 ⟨x, H1, I1, r1, q1⟩ => ?_) hs hw
  rw [h1]
  exact thn (hg pins s1 σ H1 x v _ I1 r1 q1) fun _ s2 q => q
theorem ps_set {i : Nat} {x : Str} {e : Expr} {te : TE} {pos' : Pos} (hN : X.N.Nodup) (hi : X.N[i]? = some x) (hx : Loc X.env.scope x) (he : PE X e te) (hs : swapsWith e (some (.Name x pos')) pos.line X.env = pure false := by rfl) (hf : X.fn x = true ∨ X.env.scope.names.lookup x = some .local := by first | exact .inl rfl | exact .inr rfl | assumption) :
    PS X (.Assign [.Name x pos'] e pos) (tAsg te (gName i)) := by
  intro pins s σ H D I h
  refine wpAny_Assign_Name (thn (he pins s σ H _ I h) fun v s1 ⟨y, H1, I1, r1, q1⟩ => ?_) hs
  exact store_ok I1 hN hi hx r1 (fun s2 I2 => ⟨_, H1, I2, q1⟩) hf
end

section
variable {X : Cx} {pos : Pos}
def tWhile (c : TT) (tb : TS) : TS := fun D σ H => ∃ W : Nat → St → Hp → Prop, (∃ m, W m σ H) ∧ ∀ m σ H, W m σ H →
  c σ H fun b H1 => if b = true then ∃ N : St → Hp → Prop, (∀ σ' H', N σ' H' → ∃ m', m' < m ∧ W m' σ' H') ∧ tb { D with nx := N, ct := N, bk := D.nx } σ H1 else D.nx σ H1
theorem ps_while {c : Expr} {body : List Stmt} {tc : TT} {tb : TS} (hp : PassesOwn (model X.prog X.w) X.A X.env X.xe) (hc : PT X c tc) (hb : PSs X body tb) : PS X (.While c body [] pos) (tWhile tc tb) := by
  intro pins s σ H D I h
  obtain ⟨W, ⟨m0, w0⟩, turn⟩ := h
  refine wpAny_While (codeAny_whileLoop (fun n s' => ∃ σ' H', Inv X pins σ' H' s' ∧ W n σ' H') ?_ m0 ⟨σ, H, I, w0⟩)
  rintro n s1 ⟨σ1, H1, I1, w1⟩
  refine wpAny_passesOwn hp (thn (hc pins s1 σ1 H1 _ I1 (turn n σ1 H1 w1)) fun b s2 ⟨H2, I2, q2⟩ => ?_)
  cases b with
  | true =>
    obtain ⟨N, hN, q2⟩ := q2
    rw [if_pos rfl]
    refine wpAny_passesOwn hp (thn (hb pins s2 σ1 H2 _ I2 q2) fun f s3 q3 => ?_)
    cases f with
    | next =>
      obtain ⟨σ3, H3, I3, n3⟩ := q3
      obtain ⟨m', hm, w3⟩ := hN σ3 H3 n3
      exact ⟨m', hm, σ3, H3, I3, w3⟩
    | cont =>
      obtain ⟨σ3, H3, I3, n3⟩ := q3
      obtain ⟨m', hm, w3⟩ := hN σ3 H3 n3
      exact ⟨m', hm, σ3, H3, I3, w3⟩
    | brk => exact q3
    | ret v => exact q3
  | false =>
    rw [if_neg Bool.false_ne_true]
    exact wpAny_execs_nil ⟨σ1, H2, I2, q2⟩
end

structure It where
  go : Nat → Hp → Prop
  yld : Nat → Hp → V → Hp → Prop
  stop : Nat → Hp → Prop
def FpOk (X : Cx) (pins : List (Addr × Obj)) (H : Hp) (b : Addr) : Prop :=
  H b = none ∧ b ≠ X.env.locals ∧ b ∉ X.fs ∧ (b ∈ X.ex ∨ X.s₀.heap.objs.size ≤ b) ∧ (∀ x c, X.env.cells.lookup x = some c → c ≠ b) ∧ ∀ p ∈ X.pn ++ pins, p.1 ≠ b
theorem Inv.fpOk {X : Cx} {pins : List (Addr × Obj)} {σ : St} {H H' : Hp} {s : Shared} {b : Addr} (I : Inv X pins σ H s) (hb : s.heap.objs.size ≤ b) (hn : H' b = none) : FpOk X pins H' b := by
  refine ⟨hn, Nat.ne_of_gt (Nat.lt_of_lt_of_le I.lt hb), I.nofs hb, .inr (Nat.le_trans I.sz hb), fun x c e z => ?_, fun p hp z => ?_⟩
  · obtain ⟨v, q⟩ := I.cell x c e
    exact absurd (Nat.lt_of_lt_of_le q.lt (by rw [z]; exact hb)) (Nat.lt_irrefl _)
  · exact absurd (Nat.lt_of_lt_of_le (Heap.lt_size (I.pin p hp).1) (by rw [z]; exact hb)) (Nat.lt_irrefl _)
structure Turn (P : Program) (w : World) (K : PySem.W.Frag) (tg : Expr) (J : It) (fp : List Addr) (it : Addr) (tn : Nat → Heap → Prop) : Prop where
  mem : it ∈ fp
  obj : ∀ i h, tn i h → ∀ b ∈ fp, ∃ o, h.get? b = some o ∧ ∀ v, o.data ≠ .cell v
  keep : ∀ i h h', tn i h → (∀ b ∈ fp, ∀ o, h.get? b = some o → h'.get? b = some o) → tn i h'
  item : ∀ (X : Cx), X.prog = P → X.w = w → X.K = K → X.calm = true → ∀ (i : Nat) (pins : List (Addr × Obj)) (s : Shared) (σ : St) (H : Hp) (E : Value → Shared → Prop), Inv X pins σ H s → (∀ b ∈ fp, FpOk X pins H b) → tn i s.heap → J.go i H →
    wpAny (model P w) X.A (pyNext (.ref it)) (fun r s1 => ∃ u, r = some u ∧
      wpAny (model P w) X.A (letOwnedTupleGo tg (.ref it) u) (fun _ s2 => ∃ x H', Inv X pins σ H' s2 ∧ RelV x u ∧ J.yld i H x H' ∧ tn (i + 1) s2.heap ∧ ∀ b ∈ fp, H' b = none) E s1) E s
  done : ∀ (X : Cx), X.prog = P → X.w = w → X.K = K → X.calm = true → ∀ (i : Nat) (pins : List (Addr × Obj)) (s : Shared) (σ : St) (H : Hp) (E : Value → Shared → Prop), Inv X pins σ H s → (∀ b ∈ fp, FpOk X pins H b) → tn i s.heap → J.stop i H →
    wpAny (model P w) X.A (pyNext (.ref it)) (fun r s1 => r = none ∧ Inv X pins σ H s1) E s
  self : ∀ (A : Around) (i : Nat) (s : Shared) (Q : Value → Shared → Prop) (E : Value → Shared → Prop), tn i s.heap → Q (.ref it) s → wpAny (model P w) A (pyIter (.ref it)) Q E s
abbrev TI := St → Hp → (It → Hp → Prop) → Prop
def PIE (X : Cx) (pins : List (Addr × Obj)) (σ : St) (tg : Expr) (R : It → Hp → Prop) (itv : Value) (s2 : Shared) : Prop :=
  ∃ (it : Addr) (fp : List Addr) (tn : Nat → Heap → Prop) (J : It) (H' : Hp), itv = .ref it ∧ Inv X pins σ H' s2 ∧ Turn X.prog X.w X.K tg J fp it tn ∧ tn 0 s2.heap ∧ (∀ b ∈ fp, FpOk X pins H' b) ∧ R J H'
def PI (X : Cx) (tg iter : Expr) (wi : TI) : Prop :=
  ∀ (pins : List (Addr × Obj)) (s : Shared) (σ : St) (H : Hp) (R : It → Hp → Prop), Inv X pins σ H s → wi σ H R →
    wpAny (model X.prog X.w) X.A (eval iter X.env) (fun v s1 => wpAny (model X.prog X.w) X.A (pyIter v) (PIE X pins σ tg R) X.xe s1) X.xe s

theorem go_of {M : Model} {A : Around} {E : Value → Shared → Prop} {s : Shared} {tg : Expr} {it : Addr} {u : Value} {o : Obj} {n : String} {vs : Array Value} {Q : Unit → Shared → Prop} (ho : s.heap.get? it = some o) (hc : o.cls = .type n) (hd : o.data = .fields vs)
    (hn : ["enumerate", "zip", "dict_itemiterator", "dict_reverseitemiterator", "odict_iterator", "itertools.zip_longest", "itertools.pairwise"].contains n = false) (hQ : Q () s) : wpAny M A (letOwnedTupleGo tg (.ref it) u) Q E s := by
  unfold letOwnedTupleGo
  cases tg <;> first
    | exact wpAny_pure hQ
    | (cases u <;> first
        | exact wpAny_pure hQ
        | (refine wpAny_bind (wpAny_load ho ?_)
           rw [hc, hd]
           show wpAny M A (if (["enumerate", "zip", "dict_itemiterator", "dict_reverseitemiterator", "odict_iterator", "itertools.zip_longest", "itertools.pairwise"].contains n && vs[0]? == some (rawInt _)) = true then _ else _) Q E s
           rw [if_neg (by intro h; rw [hn, Bool.false_and] at h; cases h)]
           exact wpAny_pure hQ))

def Itl (K : PySem.W.Frag) (a : Addr) : It :=
  ⟨fun i H => ∃ xs x, SqL K H a xs ∧ xs[i]? = some x, fun i H x H' => H' = H ∧ ∀ xs, SqL K H a xs → xs[i]? = some x, fun i H => ∃ xs, SqL K H a xs ∧ xs.length ≤ i⟩
def Itt (K : PySem.W.Frag) (a : Addr) : It :=
  ⟨fun i H => ∃ xs x, SqT K H a xs ∧ xs[i]? = some x, fun i H x H' => H' = H ∧ ∀ xs, SqT K H a xs → xs[i]? = some x, fun i H => ∃ xs, SqT K H a xs ∧ xs.length ≤ i⟩
def Itr (lo : Int) (n : Nat) : It := ⟨fun i _ => i < n, fun i H x H' => H' = H ∧ x = .int (lo + i), fun i _ => n ≤ i⟩
theorem turn_list {P : Program} {w : World} {K : PySem.W.Frag} {tg : Expr} (a it : Addr) : Turn P w K tg (Itl K a) [it] it (fun i h => h.IsListIter it a i) where
  mem := by simp
  obj := fun i h st b hb => by
    have e : b = it := by simpa using hb
    subst e
    obtain ⟨o, e, c, d⟩ := st
    exact ⟨o, e, fun v z => by rw [d] at z; cases z⟩
  keep := fun i h h' st k => st.at fun o e => k it (by simp) o e
  item := by
    intro X hP hw hK hc i pins s σ H E I hf st hg
    subst hP hw hK
    obtain ⟨xs, x, hq, hx⟩ := hg
    obtain ⟨its, rv, p, hz⟩ := I.list hq
    obtain ⟨u, hu, ru⟩ := rv.get hx
    obtain ⟨f0, f1, f2, f3, f4, f5⟩ := hf it (by simp)
    refine wpAny_pyNext_list_item st p.isList (x := u) (by simpa using hu) fun h' st' sb => ?_
    have I1 : Inv X pins σ H { s with heap := h' } := I.turned (t' := s.toks) (fun b o hb e => (sb.2 b hb).trans e) f0 f1 f3 f4 f5
    obtain ⟨o, e, c, d⟩ := id st'
    exact ⟨u, rfl, go_of (s := { s with heap := h' }) e c d (by decide) ⟨x, H, I1, ru, ⟨rfl, fun ys hy => by rw [I.list_inj hy hq]; exact hx⟩, st', fun b hb => (hf b hb).1⟩⟩
  done := by
    intro X hP hw hK hc i pins s σ H E I hf st hg
    subst hP hw hK
    obtain ⟨xs, hq, hx⟩ := hg
    obtain ⟨its, rv, p, hz⟩ := I.list hq
    obtain ⟨f0, f1, f2, f3, f4, f5⟩ := hf it (by simp)
    have hl := rv.length
    exact wpAny_pyNext_list_end (I.ok.hd hc) st p.isList (by simp; omega) fun h' eb => ⟨rfl, I.turned (t' := s.toks) (fun b o hb e => eb b o hb e) f0 f1 f3 f4 f5⟩
  self := fun _ _ _ _ _ st h => wpAny_pyIter_listiter st h
theorem turn_tuple {P : Program} {w : World} {K : PySem.W.Frag} {tg : Expr} (a it : Addr) : Turn P w K tg (Itt K a) [it] it (fun i h => h.IsTupleIter it a i) where
  mem := by simp
  obj := fun i h st b hb => by
    have e : b = it := by simpa using hb
    subst e
    obtain ⟨o, e, c, d⟩ := st
    exact ⟨o, e, fun v z => by rw [d] at z; cases z⟩
  keep := fun i h h' st k => st.at fun o e => k it (by simp) o e
  item := by
    intro X hP hw hK hc i pins s σ H E I hf st hg
    subst hP hw hK
    obtain ⟨xs, x, hq, hx⟩ := hg
    obtain ⟨its, rv, p, hz⟩ := I.tuple hq
    obtain ⟨u, hu, ru⟩ := rv.get hx
    obtain ⟨f0, f1, f2, f3, f4, f5⟩ := hf it (by simp)
    refine wpAny_pyNext_tuple_item st (show s.heap.IsTuple a its.toArray from p) (x := u) (by simpa using hu) fun h' st' sb => ?_
    have I1 : Inv X pins σ H { s with heap := h' } := I.turned (t' := s.toks) (fun b o hb e => (sb.2 b hb).trans e) f0 f1 f3 f4 f5
    obtain ⟨o, e, c, d⟩ := id st'
    exact ⟨u, rfl, go_of (s := { s with heap := h' }) e c d (by decide) ⟨x, H, I1, ru, ⟨rfl, fun ys hy => by rw [I.tuple_inj hy hq]; exact hx⟩, st', fun b hb => (hf b hb).1⟩⟩
  done := by
    intro X hP hw hK hc i pins s σ H E I hf st hg
    subst hP hw hK
    obtain ⟨xs, hq, hx⟩ := hg
    obtain ⟨its, rv, p, hz⟩ := I.tuple hq
    obtain ⟨f0, f1, f2, f3, f4, f5⟩ := hf it (by simp)
    have hl := rv.length
    exact wpAny_pyNext_tuple_end (I.ok.hd hc) st (show s.heap.IsTuple a its.toArray from p) (by simp; omega) fun h' eb => ⟨rfl, I.turned (t' := s.toks) (fun b o hb e => eb b o hb e) f0 f1 f3 f4 f5⟩
  self := fun _ _ _ _ _ st h => wpAny_pyIter_tupleiter st h
theorem turn_range {P : Program} {w : World} {K : PySem.W.Frag} {tg : Expr} (it : Addr) (lo : Int) (n : Nat) : Turn P w K tg (Itr lo n) [it] it (fun i h => IsRangeIter h it (lo + (i : Nat) * 1) ((n : Int) - (i : Nat)) 1) where
  mem := by simp
  obj := fun i h st b hb => by
    have e : b = it := by simpa using hb
    subst e
    exact ⟨_, st, fun v z => by
      have z' : Data.fields _ = Data.cell v := z
      cases z'⟩
  keep := fun i h h' st k => k it (by simp) _ st
  item := by
    intro X hP hw hK hc i pins s σ H E I hf st hg
    subst hP hw hK
    obtain ⟨f0, f1, f2, f3, f4, f5⟩ := hf it (by simp)
    have W := Walks.range (prog := X.prog) (w := X.w) (I.ok.hd hc) it lo 1 n
    refine W.item i s _ _ hg st fun v h' tk hv st' kk => ?_
    obtain ⟨t, rfl⟩ := hv
    have I1 : Inv X pins σ H { s with heap := h', toks := tk } := I.turned (fun b o hb e => kk b o (by simpa using hb) e) f0 f1 f3 f4 f5
    refine ⟨_, rfl, go_of (s := { s with heap := h', toks := tk }) (n := "range_iterator") st' rfl rfl (by decide) ⟨.int (lo + i), H, I1, ⟨t, ?_⟩, ⟨rfl, rfl⟩, st', fun b hb => (hf b hb).1⟩⟩
    rw [Int.mul_one]
  done := by
    intro X hP hw hK hc i pins s σ H E I hf st hg
    subst hP hw hK
    obtain ⟨f0, f1, f2, f3, f4, f5⟩ := hf it (by simp)
    exact wpAny_pyNext_range_end (I.ok.hd hc) st (by have : n ≤ i := hg; omega) fun h' eb => ⟨rfl, I.turned (t' := s.toks) (fun b o hb e => eb b o hb e) f0 f1 f3 f4 f5⟩
  self := fun _ _ _ _ _ st h => wpAny_pyIter_rangeiter st h
end L2

namespace L2
open PySem PySem.Spec PyProof.Rows
section
variable {X : Cx} {tg : Expr}
def iList (K : PySem.W.Frag) (tl : TE) : TI := fun σ H R => tl σ H fun x H1 => ∃ a, x = .ref a ∧ (∃ xs, SqL K H1 a xs) ∧ R (Itl K a) H1
def iTup (K : PySem.W.Frag) (tl : TE) : TI := fun σ H R => tl σ H fun x H1 => ∃ a, x = .ref a ∧ (∃ xs, SqT K H1 a xs) ∧ R (Itt K a) H1
theorem pi_list {l : Expr} {tl : TE} (hl : PE X l tl) : PI X tg l (iList X.K tl) := by
  intro pins s σ H R I h
  refine thn (hl pins s σ H _ I h) fun v s1 ⟨x, H1, I1, r1, q1⟩ => ?_
  obtain ⟨a, e, ⟨xs, hq⟩, q⟩ := q1
  subst e
  cases r1
  obtain ⟨its, rv, p, hz⟩ := I1.list hq
  refine wpAny_pyIter_list p.isList ?_
  refine ⟨s1.heap.objs.size, [s1.heap.objs.size], _, _, H1, rfl, I1.kept (t' := s1.toks) fun b o e => Heap.get?_push_of_some _ e, turn_list a _, ⟨_, Heap.get?_push_size _ rfl, rfl, rfl⟩, fun b hb => ?_, q⟩
  have e : b = s1.heap.objs.size := by simpa using hb
  subst e
  exact I1.fpOk (Nat.le_refl _) (I1.hok.fresh (Nat.le_refl _))
theorem pi_tup {l : Expr} {tl : TE} (hl : PE X l tl) : PI X tg l (iTup X.K tl) := by
  intro pins s σ H R I h
  refine thn (hl pins s σ H _ I h) fun v s1 ⟨x, H1, I1, r1, q1⟩ => ?_
  obtain ⟨a, e, ⟨xs, hq⟩, q⟩ := q1
  subst e
  cases r1
  obtain ⟨its, rv, p, hz⟩ := I1.tuple hq
  refine wpAny_pyIter_tuple (show s1.heap.IsTuple a its.toArray from p) ?_
  refine ⟨s1.heap.objs.size, [s1.heap.objs.size], _, _, H1, rfl, I1.kept (t' := s1.toks) fun b o e => Heap.get?_push_of_some _ e, turn_tuple a _, ⟨_, Heap.get?_push_size _ rfl, rfl, rfl⟩, fun b hb => ?_, q⟩
  have e : b = s1.heap.objs.size := by simpa using hb
  subst e
  exact I1.fpOk (Nat.le_refl _) (I1.hok.fresh (Nat.le_refl _))
theorem range_it {pins : List (Addr × Obj)} {σ : St} {H : Hp} {s : Shared} {R : It → Hp → Prop} {E : Value → Shared → Prop} {lo hi : Int} {t u v : Tok} {tk : Nat} (I : Inv X pins σ H s) (h1 : -(2 ^ 62) ≤ lo) (h2 : lo < 2 ^ 62) (h3 : -(2 ^ 62) ≤ hi) (h4 : hi < 2 ^ 62)
    (q : R (Itr lo (hi - lo).toNat) H) : wpAny (model X.prog X.w) X.A (pyIter (.ref s.heap.objs.size)) (PIE X pins σ tg R) E { s with heap := s.heap.push { cls := .type "range", data := .fields #[.int lo t, .int hi u, .int 1 v] }, toks := tk } := by
  refine wpAny_pyIter_range (IsRange.new ..) (small_one h1 h2 h3 h4) ?_
  have I1 : Inv X pins σ H { s with heap := s.heap.push { cls := .type "range", data := .fields #[.int lo t, .int hi u, .int 1 v] }, toks := tk } := I.kept fun b o e => Heap.get?_push_of_some _ e
  refine ⟨(s.heap.push { cls := .type "range", data := .fields #[.int lo t, .int hi u, .int 1 v] }).objs.size, [(s.heap.push { cls := .type "range", data := .fields #[.int lo t, .int hi u, .int 1 v] }).objs.size], _, _, H, rfl,
    I1.kept (t' := tk) fun b o e => Heap.get?_push_of_some _ e, turn_range _ lo (hi - lo).toNat, ?_, fun b hb => ?_, q⟩
  · have e1 : lo + ((0 : Nat) : Int) * 1 = lo := by simp
    have e2 : (((hi - lo).toNat : Nat) : Int) - ((0 : Nat) : Int) = Builtin.Range.rangeSize lo hi 1 := by rw [rangeSize_one]; split <;> omega
    show IsRangeIter _ _ (lo + ((0 : Nat) : Int) * 1) ((((hi - lo).toNat : Nat) : Int) - ((0 : Nat) : Int)) 1
    rw [e1, e2]
    exact Heap.get?_push_size _ rfl
  · have e : b = (s.heap.push { cls := .type "range", data := .fields #[.int lo t, .int hi u, .int 1 v] }).objs.size := by simpa using hb
    subst e
    exact I1.fpOk (Nat.le_refl _) (I1.hok.fresh (Nat.le_refl _))
def iRng1 (ta : TA) : TI := fun σ H R => ta σ H fun vs H1 => ∃ j : Int, vs = [.int j] ∧ -(2 ^ 62) ≤ j ∧ j < 2 ^ 62 ∧ R (Itr 0 j.toNat) H1
theorem pi_range1 {a : Expr} {ta : TA} {p pos : Pos} (hg : Gl X "range") (hm : X.mg "range" = none) (ha : PA X [a] ta) (hs : starEach [a] X.env = [(false, eval a X.env)] := by rfl) : PI X tg (.Call (.Name "range" p) [a] [] pos) (iRng1 ta) := by
  intro pins s σ H R I h
  refine Call_ (ld_blt I hg hm boot_range (PyProof.Rows.callWith_type1 (thn (ha pos pins s σ H _ I h) fun us s1 ⟨vs, H1, I1, r1, q1⟩ => ?_) hs rfl))
  obtain ⟨j, e, q1, q2, q⟩ := q1
  subst e
  cases r1 with
  | cons r rr =>
    cases rr
    obtain ⟨t, rfl⟩ := r
    exact call_range_1 (range_it I1 (by omega) (by omega) q1 q2 (by simpa using q))
def tFor (wi : TI) (g : TG) (tb : TS) : TS := fun D σ H => wi σ H fun J H1 => ∃ W : Nat → Nat → St → Hp → Prop, (∃ m, W 0 m σ H1) ∧ ∀ i m σ H, W i m σ H →
  (J.stop i H ∧ D.nx σ H) ∨ (J.go i H ∧ ∃ N : St → Hp → Prop, (∀ σ' H', N σ' H' → ∃ m', m' < m ∧ W (i + 1) m' σ' H') ∧ ∀ x H', J.yld i H x H' → g x σ H' fun σ2 H2 => tb { D with nx := N, ct := N, bk := D.nx } σ2 H2)
def pinsAt (fp : List Addr) (h : Heap) : List (Addr × Obj) := fp.filterMap fun b => (h.get? b).map fun o => (b, o)
theorem mem_pinsAt {fp : List Addr} {h : Heap} {b : Addr} {o : Obj} (hb : b ∈ fp) (e : h.get? b = some o) : (b, o) ∈ pinsAt fp h := List.mem_filterMap.mpr ⟨b, hb, by rw [e]; rfl⟩
theorem of_pinsAt {fp : List Addr} {h : Heap} {p : Addr × Obj} (hp : p ∈ pinsAt fp h) : p.1 ∈ fp ∧ h.get? p.1 = some p.2 := by
  obtain ⟨b, hb, e⟩ := List.mem_filterMap.mp hp
  cases q : h.get? b with
  | none => rw [q] at e; cases e
  | some o =>
    rw [q] at e
    have e' : (b, o) = p := Option.some.inj e
    subst e'
    exact ⟨hb, q⟩
theorem Inv.pinned {pins : List (Addr × Obj)} {σ : St} {H : Hp} {s : Shared} {fp : List Addr} (I : Inv X pins σ H s) (hf : ∀ b ∈ fp, FpOk X pins H b) (ho : ∀ b ∈ fp, ∃ o, s.heap.get? b = some o ∧ ∀ v, o.data ≠ .cell v) : Inv X (pins ++ pinsAt fp s.heap) σ H s :=
  I.pins_of fun p hp => (List.mem_append.mp hp).elim (fun z => I.pin p (List.mem_append_right _ z)) fun z => by
    obtain ⟨hb, e⟩ := of_pinsAt z
    obtain ⟨f0, f1, f2, _⟩ := hf p.1 hb
    obtain ⟨o, e', d⟩ := ho p.1 hb
    rw [e] at e'; cases e'
    exact ⟨e, f0, f1, f2, d⟩
theorem Inv.unpinned {pins pl : List (Addr × Obj)} {σ : St} {H : Hp} {s : Shared} (I : Inv X (pins ++ pl) σ H s) : Inv X pins σ H s := I.pins_of fun p hp => I.pin p (List.mem_append_right _ (List.mem_append_left _ hp))
theorem ps_for {iter : Expr} {body : List Stmt} {wi : TI} {g : TG} {tb : TS} {pos : Pos} (hp : PassesOwn (model X.prog X.w) X.A X.env X.xe) (hc : X.calm = true) (hi : PI X tg iter wi) (hg : PG X tg g) (hb : PSs X body tb)
    (hs : ∀ x, foldedSetIterable iter X.env x = pure x := by intro _; rfl) : PS X (.For tg iter body [] pos) (tFor wi g tb) := by
  intro pins s σ H D I h
  refine wpAny_For (thn (hi pins s σ H _ I h) fun v s1 h1 => thn h1 fun itv s2 h2 => ?_) hs
  obtain ⟨it, fp, tn, J, H2, e, I2, T, st2, f2, W, ⟨m0, w0⟩, turn⟩ := h2
  subst e
  -- what stays true of the iterator's objects through the loop
  have stat : ∀ {H' : Hp}, (∀ b ∈ fp, H' b = none) → ∀ b ∈ fp, FpOk X pins H' b := fun hn b hb => ⟨hn b hb, (f2 b hb).2⟩
  refine codeAny_forLoop_any (fun n s' => ∃ i σ' H', Inv X pins σ' H' s' ∧ tn i s'.heap ∧ (∀ b ∈ fp, H' b = none) ∧ W i n σ' H') ?_ m0 ⟨0, σ, H2, I2, st2, fun b hb => (f2 b hb).1, w0⟩
  rintro n s3 ⟨i, σ3, H3, I3, st3, fr3, w3⟩
  rcases turn i n σ3 H3 w3 with ⟨stop, qn⟩ | ⟨go, N, hN, step⟩
  · refine wpAny_passesOwn hp (thn (T.done X rfl rfl rfl hc i pins s3 σ3 H3 X.xe I3 (stat fr3) st3 stop) fun r s4 ⟨hr, I4⟩ => ?_)
    subst hr
    exact wpAny_execs_nil ⟨σ3, H3, I4, qn⟩
  · refine wpAny_passesOwn hp (thn (T.item X rfl rfl rfl hc i pins s3 σ3 H3 X.xe I3 (stat fr3) st3 go) fun r s4 ⟨u, hr, h4⟩ => ?_)
    subst hr
    refine wpAny_passesOwn hp (thn h4 fun _ s5 ⟨x, H5, I5, r5, y5, st5, fr5⟩ => ?_)
    have I5' := I5.pinned (stat fr5) (T.obj _ _ st5)
    refine wpAny_passesOwn hp (thn (hg _ s5 σ3 H5 x u _ I5' r5 (step x H5 y5)) fun _ s6 ⟨σ6, H6, I6, q6⟩ => ?_)
    refine wpAny_passesOwn hp (thn (hb _ s6 σ6 H6 _ I6 q6) fun f s7 q7 => ?_)
    have again : ∀ {σ7 : St} {H7 : Hp}, Inv X (pins ++ pinsAt fp s5.heap) σ7 H7 s7 → N σ7 H7 → ∃ m, m < n ∧ ∃ i σ' H', Inv X pins σ' H' s7 ∧ tn i s7.heap ∧ (∀ b ∈ fp, H' b = none) ∧ W i m σ' H' := fun {σ7 H7} I7 n7 => by
      obtain ⟨m', hm, w7⟩ := hN σ7 H7 n7
      refine ⟨m', hm, i + 1, σ7, H7, I7.unpinned, T.keep _ _ _ st5 fun b hb o e => (I7.pin (b, o) (List.mem_append_right _ (List.mem_append_right _ (mem_pinsAt hb e)))).1, fun b hb => ?_, w7⟩
      obtain ⟨o, e, d⟩ := T.obj _ _ st5 b hb
      exact (I7.pin (b, o) (List.mem_append_right _ (List.mem_append_right _ (mem_pinsAt hb e)))).2.1
    cases f with
    | next => obtain ⟨σ7, H7, I7, n7⟩ := q7; exact again I7 n7
    | cont => obtain ⟨σ7, H7, I7, n7⟩ := q7; exact again I7 n7
    | brk => obtain ⟨σ7, H7, I7, q7⟩ := q7; exact ⟨σ7, H7, I7.unpinned, q7⟩
    | ret v => obtain ⟨x7, σ7, H7, I7, r7, q7⟩ := q7; exact ⟨x7, σ7, H7, I7.unpinned, r7, q7⟩
end

end L2

namespace L2
open PySem PySem.Spec PyProof.Rows

abbrev R2 := V → V → Hp → VK → Prop
def OpR (X : Cx) (f : Value → Value → Sem Value) (r : R2) : Prop :=
  ∀ (pins : List (Addr × Obj)) (s : Shared) (σ : St) (H : Hp) (x y : V) (v u : Value) (Q : VK), Inv X pins σ H s → RelV x v → RelV y u → r x y H Q →
    wpAny (model X.prog X.w) X.A (f v u) (EP X pins σ Q) X.xe s
def UnR (X : Cx) (f : Value → Sem Value) (r : V → Hp → VK → Prop) : Prop :=
  ∀ (pins : List (Addr × Obj)) (s : Shared) (σ : St) (H : Hp) (x : V) (v : Value) (Q : VK), Inv X pins σ H s → RelV x v → r x H Q →
    wpAny (model X.prog X.w) X.A (f v) (EP X pins σ Q) X.xe s
def CallR (X : Cx) (f : Value) (r : List V → Hp → VK → Prop) : Prop :=
  ∀ (pins : List (Addr × Obj)) (s : Shared) (σ : St) (H : Hp) (xs : List V) (us : List Value) (Q : VK), Inv X pins σ H s → Vals xs us → r xs H Q →
    wpAny (model X.prog X.w) X.A (call f us) (EP X pins σ Q) X.xe s
def tOp (r : R2) (ta tb : TE) : TE := fun σ H Q => ta σ H fun x H1 => tb σ H1 fun y H2 => r x y H2 Q
def tUn (r : V → Hp → VK → Prop) (ta : TE) : TE := fun σ H Q => ta σ H fun x H1 => r x H1 Q
def rI (C : Int → Int → Prop) (g : Int → Int → V) : R2 := fun x y H Q => ∃ i j, x = .int i ∧ y = .int j ∧ C i j ∧ Q (g i j) H
def rI0 (g : Int → Int → V) : R2 := fun x y H Q => ∃ i j, x = .int i ∧ y = .int j ∧ Q (g i j) H
def rU (g : Int → V) : V → Hp → VK → Prop := fun x H Q => ∃ i, x = .int i ∧ Q (g i) H

section
variable {X : Cx} {a b c : Expr} {ta tb tc : TE} {pos : Pos}

theorem binT (ha : PE X a ta) (hb : PE X b tb) {pins : List (Addr × Obj)} {s : Shared} {σ : St} {H : Hp} {R : V → V → Hp → Prop} (I : Inv X pins σ H s)
    (h : ta σ H fun x H1 => tb σ H1 fun y H2 => R x y H2) {Q : Value → Shared → Prop} {f : Value → Value → Sem Value}
    (hf : ∀ v u s2 x y H2, Inv X pins σ H2 s2 → RelV x v → RelV y u → R x y H2 → wpAny (model X.prog X.w) X.A (f v u) Q X.xe s2) :
    wpAny (model X.prog X.w) X.A (eval a X.env) (fun v s₁ => wpAny (model X.prog X.w) X.A (eval b X.env) (fun u s₂ => wpAny (model X.prog X.w) X.A (f v u) Q X.xe s₂) X.xe s₁) X.xe s := by
  refine thn (ha pins s σ H _ I h) fun v s1 ⟨x, H1, I1, r1, q1⟩ => ?_
  refine thn (hb pins s1 σ H1 _ I1 q1) fun u s2 ⟨y, H2, I2, r2, q2⟩ => ?_
  exact hf v u s2 x y H2 I2 r1 r2 q2

theorem pe_op {op : Operator} {r : R2} (ho : OpR X (binaryOp op) r) (ha : PE X a ta) (hb : PE X b tb) : PE X (.BinOp a op b pos) (tOp r ta tb) := by
  intro pins s σ H Q I h
  exact wpAny_BinOp (binT ha hb I h fun v u s2 x y H2 I2 rx ry q => ho pins s2 σ H2 x y v u Q I2 rx ry q)
theorem pe_un {op : UnaryOp} {r : V → Hp → VK → Prop} (ho : UnR X (unaryOp op) r) (ha : PE X a ta) : PE X (.UnaryOp op a pos) (tUn r ta) := by
  intro pins s σ H Q I h
  exact UnaryOp_ (thn (ha pins s σ H _ I h) fun v s1 ⟨x, H1, I1, r1, q1⟩ => ho pins s1 σ H1 x v Q I1 r1 q1)
theorem opI {f : Value → Value → Sem Value} {C : Int → Int → Prop} {g : Int → Int → Int}
    (rule : ∀ (i j : Int) (t u : Tok) (s : Shared) (Q : Value → Shared → Prop) (E : Value → Shared → Prop), C i j → Q (.int (g i j) s.toks) { s with toks := s.toks + 1 } → wpAny (model X.prog X.w) X.A (f (.int i t) (.int j u)) Q E s) :
    OpR X f (rI C fun i j => .int (g i j)) := by
  intro pins s σ H x y v u Q I rx ry h
  obtain ⟨i, j, rfl, rfl, hc, q⟩ := h
  obtain ⟨t, rfl⟩ := rx
  obtain ⟨t', rfl⟩ := ry
  exact rule i j t t' s _ _ hc ⟨.int (g i j), H, I.tok _, ⟨_, rfl⟩, q⟩
theorem opI0 {f : Value → Value → Sem Value} {g : Int → Int → Int}
    (rule : ∀ (i j : Int) (t u : Tok) (s : Shared) (Q : Value → Shared → Prop) (E : Value → Shared → Prop), Q (.int (g i j) s.toks) { s with toks := s.toks + 1 } → wpAny (model X.prog X.w) X.A (f (.int i t) (.int j u)) Q E s) :
    OpR X f (rI0 fun i j => .int (g i j)) := by
  intro pins s σ H x y v u Q I rx ry h
  obtain ⟨i, j, rfl, rfl, q⟩ := h
  obtain ⟨t, rfl⟩ := rx
  obtain ⟨t', rfl⟩ := ry
  exact rule i j t t' s _ _ ⟨.int (g i j), H, I.tok _, ⟨_, rfl⟩, q⟩
theorem opB0 {f : Value → Value → Sem Value} {g : Int → Int → Bool}
    (rule : ∀ (i j : Int) (t u : Tok) (s : Shared) (Q : Value → Shared → Prop) (E : Value → Shared → Prop), Q (.bool (g i j)) s → wpAny (model X.prog X.w) X.A (f (.int i t) (.int j u)) Q E s) :
    OpR X f (rI0 fun i j => .bl (g i j)) := by
  intro pins s σ H x y v u Q I rx ry h
  obtain ⟨i, j, rfl, rfl, q⟩ := h
  obtain ⟨t, rfl⟩ := rx
  obtain ⟨t', rfl⟩ := ry
  exact rule i j t t' s _ _ ⟨.bl (g i j), H, I, rfl, q⟩

def CPow (i j : Int) : Prop := 0 ≤ j ∧ j ≤ 1000000 ∧ i.natAbs < 2 ^ 64
def CMul (i j : Int) : Prop := (-(2 ^ 64) < i ∧ i < 2 ^ 64) ∨ (-(2 ^ 64) < j ∧ j < 2 ^ 64)
theorem CMul.ok {i j : Int} (h : CMul i j) : IntMulOk i j := by
  rcases h with ⟨h1, h2⟩ | ⟨h1, h2⟩
  · exact .of_left (intBits_le_64 h1 h2)
  · exact .of_right (intBits_le_64 h1 h2)
theorem op_add : OpR X (binaryOp .Add) (rI0 fun i j => .int (i + j)) := opI0 fun _ _ _ _ _ _ _ q => add_int q
theorem op_sub : OpR X (binaryOp .Sub) (rI0 fun i j => .int (i - j)) := opI0 fun _ _ _ _ _ _ _ q => sub_int q
theorem op_modN : OpR X (binaryOp .Mod) (rI (fun _ j => j ≠ 0) fun i j => .int (i.fmod j)) := opI fun _ _ _ _ _ _ _ hc q => mod_int' hc q
theorem op_pow : OpR X (binaryOp .Pow) (rI CPow fun i j => .int (i ^ j.toNat)) := opI fun _ _ _ _ _ _ _ hc q => pow_int_small hc.1 hc.2.1 hc.2.2 q
theorem op_shl : OpR X (binaryOp .LShift) (rI CPow fun i j => .int (i * 2 ^ j.toNat)) := opI fun _ _ _ _ _ _ _ hc q => lshift_int_small hc.1 hc.2.1 hc.2.2 q
theorem unI {f : Value → Sem Value} {g : Int → Int}
    (rule : ∀ (i : Int) (t : Tok) (s : Shared) (Q : Value → Shared → Prop) (E : Value → Shared → Prop), Q (.int (g i) s.toks) { s with toks := s.toks + 1 } → wpAny (model X.prog X.w) X.A (f (.int i t)) Q E s) :
    UnR X f (rU fun i => .int (g i)) := by
  intro pins s σ H x v Q I rx h
  obtain ⟨i, rfl, q⟩ := h
  obtain ⟨t, rfl⟩ := rx
  exact rule i t s _ _ ⟨.int (g i), H, I.tok _, ⟨_, rfl⟩, q⟩
theorem un_neg : UnR X (unaryOp .USub) (rU fun i => .int (-i)) := unI fun _ _ _ _ _ q => neg_int q
end

section
variable {X : Cx} {a b c : Expr} {ta tb tc : TE} {pos : Pos}
theorem op_lt : OpR X (compareOp .Lt) (rI0 fun i j => .bl (decide (i < j))) := opB0 fun _ _ _ _ _ _ _ q => lt_int q
theorem op_le : OpR X (compareOp .LtE) (rI0 fun i j => .bl (decide (i ≤ j))) := opB0 fun _ _ _ _ _ _ _ q => le_int q
theorem op_gt : OpR X (compareOp .Gt) (rI0 fun i j => .bl (decide (j < i))) := opB0 fun _ _ _ _ _ _ _ q => gt_int q
theorem op_ge : OpR X (compareOp .GtE) (rI0 fun i j => .bl (decide (j ≤ i))) := opB0 fun _ _ _ _ _ _ _ q => ge_int q
theorem OpR.or {f : Value → Value → Sem Value} {r r' : R2} (h : OpR X f r) (h' : OpR X f r') : OpR X f (fun x y H Q => r x y H Q ∨ r' x y H Q) := by
  intro pins s σ H x y v u Q I rx ry q
  rcases q with q | q
  · exact h pins s σ H x y v u Q I rx ry q
  · exact h' pins s σ H x y v u Q I rx ry q

theorem nomark (b : Expr) {op : CmpOp} (h : op ≠ .In := by decide) (h2 : op ≠ .NotIn := by decide) : behindInMarks op b = false := by
  have e1 : (op == CmpOp.In) = false := by cases op <;> first | rfl | exact absurd rfl h
  have e2 : (op == CmpOp.NotIn) = false := by cases op <;> first | rfl | exact absurd rfl h2
  cases b <;> simp [behindInMarks, e1, e2]
theorem pe_cmpR {op : CmpOp} {r : R2} (ho : OpR X (compareOp op) r) (ha : PE X a ta) (hb : PE X b tb) (hm : behindInMarks op b = false) : PE X (.Compare a [op] [b] pos) (tOp r ta tb) := by
  intro pins s σ H Q I h
  exact wpAny_Compare1 (binT ha hb I h fun v u s2 x y H2 I2 rx ry q => ho pins s2 σ H2 x y v u Q I2 rx ry q) hm
def tTest (t : TE) : TT := fun σ H Q => t σ H fun x H' => ∃ k, x = .bl k ∧ Q k H'
theorem pt_cmpR {op : CmpOp} {r : R2} (ho : OpR X (compareOp op) r) (ha : PE X a ta) (hb : PE X b tb) (hm : behindInMarks op b = false) : PT X (.Compare a [op] [b] pos) (tTest (tOp r ta tb)) := by
  intro pins s σ H Q I h
  refine wpAny_isTrue_Compare1 (thn (ha pins s σ H _ I h) fun v s1 ⟨x, H1, I1, r1, q1⟩ => thn (hb pins s1 σ H1 _ I1 q1) fun u s2 ⟨y, H2, I2, r2, q2⟩ =>
    thn (ho pins s2 σ H2 x y v u _ I2 r1 r2 q2) fun c s3 ⟨z, H3, I3, r3, k, e, q3⟩ => ?_) hm
  subst e
  cases r3
  exact wpAny_truthy_bool ⟨H3, I3, q3⟩
theorem line63 : (sizeLine : Nat) < 2 ^ 63 := by rw [sizeLine_eq]; decide
theorem vals1 {x : V} {us : List Value} (r : Vals [x] us) : ∃ u, us = [u] ∧ RelV x u := by
  cases r with
  | cons r1 r2 => cases r2; exact ⟨_, rfl, r1⟩
theorem vals2 {x y : V} {us : List Value} (r : Vals [x, y] us) : ∃ u w', us = [u, w'] ∧ RelV x u ∧ RelV y w' := by
  cases r with
  | cons r1 r2 =>
    cases r2 with
    | cons r3 r4 => cases r4; exact ⟨_, _, rfl, r1, r3⟩
theorem call_abs : CallR X (.builtin "abs") (fun xs H Q => ∃ i, xs = [.int i] ∧ Q (.int (if i < 0 then -i else i)) H) := by
  intro pins s σ H xs us Q I r h
  obtain ⟨i, rfl, q⟩ := h
  obtain ⟨u, rfl, t, rfl⟩ := vals1 r
  exact call_abs_int fun u tk => ⟨.int (if i < 0 then -i else i), H, I.tok _, ⟨_, rfl⟩, q⟩
end
end L2

namespace L2
open PySem PySem.Spec PyProof.Rows

section
variable {prog : Program} {w : World} {A : Around} {E : Value → Shared → Prop} {s : Shared} {K : PySem.W.Frag} {x dx C f : Addr} {mA : Str → Option Value} {name : Str} {v : Value}

end

section
variable {P : Program} {w : World} {H H' : Hp} {h h' : Heap} {a C dx : Addr} {fs fs' : List (Str × V)}
end

structure Cls (K : PySem.W.Frag) (C : Addr) : Prop where
  pg : PySem.W.plainGet K C Str.empty = true
  hd : PySem.W.hasDictIn K C = true
  po : PySem.W.plainOver K C = true
  sa : PySem.W.findIn K (.ref C) "__setattr__" = some (some (.builtin "object.__setattr__"))
theorem Cls.get {K : PySem.W.Frag} {C : Addr} (c : Cls K C) (f : Str) : PySem.W.plainGet K C f = true := c.pg
section
variable {X : Cx} {pins : List (Addr × Obj)} {σ : St} {H : Hp} {s : Shared} {a C dx : Addr} {fs : List (Str × V)} {f : Str} {v : V} {A : Around} {E : Value → Shared → Prop}

theorem Inv.made (I : Inv X pins σ H s) : Inv X pins σ (upd (upd H s.heap.objs.size (.own (s.heap.objs.size + 1))) (s.heap.objs.size + 1) (.ins C s.heap.objs.size []))
    { s with heap := (s.heap.push PySem.W.emptyDict).push (PySem.W.instObj C s.heap.objs.size) } := by
  have e1 : (s.heap.push PySem.W.emptyDict).get? s.heap.objs.size = some PySem.W.emptyDict := Heap.get?_push_size s.heap rfl
  have e2 : ((s.heap.push PySem.W.emptyDict).push (PySem.W.instObj C s.heap.objs.size)).get? (s.heap.objs.size + 1) = some (PySem.W.instObj C s.heap.objs.size) := by
    have := Heap.get?_push_size (s.heap.push PySem.W.emptyDict) (o := PySem.W.instObj C s.heap.objs.size) rfl
    rwa [Heap.size_push] at this
  have e3 : (s.heap.push PySem.W.emptyDict).Ns s.heap.objs.size (fun _ => none) := ⟨PySem.W.emptyDict, #[], _, e1, rfl, (fun e he => absurd he (by simp)), fun _ => rfl⟩
  have I1 := I.laid (a := s.heap.objs.size) (o := .own (s.heap.objs.size + 1)) (h' := s.heap.push PySem.W.emptyDict) (t' := s.toks) (fun b u q => Heap.get?_push_of_some _ q) (Nat.le_refl _) ⟨_, e1⟩
  refine I1.laid (a := s.heap.objs.size + 1) (o := .ins C s.heap.objs.size []) (t' := s.toks) (fun b u q => Heap.get?_push_of_some _ q) (Nat.le_of_eq (Heap.size_push _ _)) ?_
  have ne : s.heap.objs.size ≠ s.heap.objs.size + 1 := Nat.ne_of_lt (Nat.lt_succ_self _)
  refine ⟨by rw [upd_ne ne, upd_same], Nat.zero_le _, ne, e2, fun _ => none, (Heap.Ns1.of_empty e3).at fun o q => Heap.get?_push_of_some _ q, fun _ => True.intro, fun y hy => absurd rfl hy⟩

end

section
variable {X : Cx} {o e value : Expr} {f : Str} {pos pos' tpos : Pos} {ta tv : TE}
end

section
variable {X : Cx} {pins : List (Addr × Obj)} {σ : St} {H : Hp} {s : Shared} {A : Around} {E : Value → Shared → Prop} {Q : Value → Shared → Prop} {c : Value} {b : Bool}
end
end L2

namespace L2
open PySem PySem.Spec PyProof.Rows

structure Room (k : Nat) (A : Around) : Prop where
  hd : A.handled = none
  dp : A.depth + 3 * k + 5 < recursionLimit
  un : A.units + 16 * k + 200 < cLine
theorem Room.mono {j k : Nat} {A : Around} (r : Room k A) (h : j ≤ k) : Room j A := ⟨r.hd, by have := r.dp; omega, by have := r.un; omega⟩
theorem Room.deeper {k : Nat} {A : Around} (r : Room (k + 1) A) (env : Env) : Room k (A.deeper env) :=
  ⟨r.hd, by have := r.dp; show A.depth + 1 + 3 * k + 5 < _; omega, by have := r.un; show A.units + 3 + 16 * k + 200 < _; omega⟩
theorem Room.in1 {k : Nat} {A : Around} (r : Room (k + 1) A) : Room k A.in1 :=
  ⟨r.hd, by have := r.dp; show A.depth + 3 * k + 5 < _; omega, by have := r.un; show A.units + 1 + 16 * k + 200 < _; omega⟩
theorem Room.depth {k : Nat} {A : Around} (r : Room k A) : A.depth < recursionLimit := by have := r.dp; omega
theorem Room.units {k : Nat} {A : Around} (r : Room k A) : A.units + 64 < cLine := by have := r.un; omega
def tNil : TA := fun _ H Q => Q [] H
def tCons (ta : TE) (tr : TA) : TA := fun σ H Q => ta σ H fun x H1 => tr σ H1 fun xs H2 => Q (x :: xs) H2
section
variable {X : Cx} {e : Expr} {es : List Expr} {te : TE} {t : TA} {pos : Pos}
theorem pa_nil : PA X [] tNil := fun _ _ _ _ H Q I h => Calls.spliced_nil ⟨[], H, I, .nil, h⟩
theorem pa_cons (ha : PE X e te) (hr : PA X es t) (hs : starEach (e :: es) X.env = (false, eval e X.env) :: starEach es X.env := by rfl) : PA X (e :: es) (tCons te t) := by
  intro pos pins s σ H Q I h
  rw [hs]
  show wpAny _ _ (spliced ((false, eval e X.env) :: backTo pos (starEach es X.env))) _ _ s
  refine Calls.spliced_cons (thn (ha pins s σ H _ I h) fun u s1 ⟨x, H1, I1, r1, q1⟩ => ?_)
  exact thn (hr pos pins s1 σ H1 _ I1 q1) fun us s2 ⟨xs, H2, I2, r2, q2⟩ => ⟨x :: xs, H2, I2, .cons r1 r2, q2⟩

def tTup (t : TA) : TE := fun σ H Q => t σ H fun xs H1 => xs.length ≤ sizeLine ∧ ∀ p, H1 p = none → Q (.ref p) (upd H1 p (.tup xs))
def tLst (t : TA) : TE := fun σ H Q => t σ H fun xs H1 => xs.length ≤ sizeLine ∧ ∀ p, H1 p = none → Q (.ref p) (upd H1 p (.lst xs))
theorem pe_tup {x1} (h : PA X es t) : PE X (.Tuple es x1 pos) (tTup t) := by
  intro pins s σ H Q I hq
  refine wpAny_Tuple_spliced (thn (h pos pins s σ H _ I hq) fun us s1 ⟨xs, H1, I1, r, z, q⟩ => ⟨by rw [← r.length]; exact z, ?_⟩)
  have hf : H1 s1.heap.objs.size = none := I1.hok.fresh (Nat.le_refl _)
  refine ⟨.ref s1.heap.objs.size, upd H1 s1.heap.objs.size (.tup xs), I1.laid (t' := s1.toks) (fun b u e => Heap.get?_push_of_some _ e) (Nat.le_refl _) ?_, rfl, q _ hf⟩
  exact ⟨z, us, r, ⟨_, Heap.get?_push_size _ rfl, rfl, _, rfl⟩⟩
theorem pe_lst (h : PA X es t) : PE X (.List es pos) (tLst t) := by
  intro pins s σ H Q I hq
  refine wpAny_List_spliced (thn (h pos pins s σ H _ I hq) fun us s1 ⟨xs, H1, I1, r, z, q⟩ => ⟨by rw [← r.length]; exact z, ?_⟩)
  have hf : H1 s1.heap.objs.size = none := I1.hok.fresh (Nat.le_refl _)
  refine ⟨.ref s1.heap.objs.size, upd H1 s1.heap.objs.size (.lst xs), I1.laid (t' := s1.toks) (fun b u e => Heap.get?_push_of_some _ e) (Nat.le_refl _) ?_, rfl, q _ hf⟩
  exact ⟨z, us, 0, r, Heap.get?_push_size _ rfl⟩
end

abbrev Sp := List V → Hp → VK → XK → Prop
abbrev CXT := List Env → Hp → Shared → XK → Value → Shared → Prop

structure Env0 (P : Program) (w : World) (K : PySem.W.Frag) (mg : Str → Option Value) (base : Heap) (A : Around) (outer : List Env) (s : Shared) (H : Hp) : Prop where
  frames : A.frames = some outer
  mod : Mod K mg base
  bs : ∀ b o, base.get? b = some o → s.heap.get? b = some o ∧ H b = none
  bsz : base.objs.size ≤ s.heap.objs.size
  funs : s.heap.FunFrames base outer
  frf : ∀ b ∈ frs outer, H b = none
  hok : HOk P w H s.heap
  bare : AllBare s.gens
def CE (outer : List Env) (P : Program) (w : World) (H : Hp) (s : Shared) (Q : VK) (u : Value) (s' : Shared) : Prop :=
  ∃ v H', s'.os = s.os ∧ AllBare s'.gens ∧ Un (frs outer) [] H H' s.heap s'.heap ∧ HOk P w H' s'.heap ∧ RelV v u ∧ Q v H'
def CR (CX : CXT) (outer : List Env) (P : Program) (w : World) (H : Hp) (s : Shared) (Q : VK) (E : XK) (r : Result) (s' : Shared) : Prop :=
  match r with
  | .ok (.ret u) => CE outer P w H s Q u s'
  | .ok _ => False
  | .error e => CX outer H s E e s'
structure FnOk (P : Program) (w : World) (K : PySem.W.Frag) (mg : Str → Option Value) (base : Heap) (CX : CXT) (k : Nat) (f : Addr) (fd : FuncData) (ps : List Str) (sp : Sp) : Prop where
  len : ∀ vs H Q E, sp vs H Q E → vs.length = ps.length
  run : ∀ (A : Around) (outer : List Env) (s : Shared) (H : Hp) (args : Args) (us : List Value) (vs : List V) (Q : VK) (E : XK), Room k A → Env0 P w K mg base A outer s H → BindsTo s fd args (ps.zip us) → Vals vs us → sp vs H Q E →
    codeAny (model P w) A (.call (.ref f) args) (CR CX outer P w H s Q E) s
theorem FnOk.mono {P : Program} {w : World} {K : PySem.W.Frag} {mg : Str → Option Value} {base : Heap} {CX : CXT} {j k : Nat} {f : Addr} {fd : FuncData} {ps : List Str} {sp : Sp} (F : FnOk P w K mg base CX j f fd ps sp) (h : j ≤ k) :
    FnOk P w K mg base CX k f fd ps sp := ⟨F.len, fun A outer s H args us vs Q E hr => F.run A outer s H args us vs Q E (hr.mono h)⟩
theorem FnOk.imp {P : Program} {w : World} {K : PySem.W.Frag} {mg : Str → Option Value} {base : Heap} {CX : CXT} {k : Nat} {f : Addr} {fd : FuncData} {ps : List Str} {sp sp' : Sp} (F : FnOk P w K mg base CX k f fd ps sp)
    (h : ∀ vs H Q E, sp' vs H Q E → sp vs H Q E) : FnOk P w K mg base CX k f fd ps sp' :=
  ⟨fun vs H Q E q => F.len vs H Q E (h _ _ _ _ q), fun A outer s H args us vs Q E hr he hb hv hs => F.run A outer s H args us vs Q E hr he hb hv (h _ _ _ _ hs)⟩

theorem Env0.in1 {P : Program} {w : World} {K : PySem.W.Frag} {mg : Str → Option Value} {base : Heap} {A : Around} {outer : List Env} {s : Shared} {H : Hp} (e : Env0 P w K mg base A outer s H) :
    Env0 P w K mg base A.in1 outer s H := ⟨e.frames, e.mod, e.bs, e.bsz, e.funs, e.frf, e.hok, e.bare⟩

section
variable {X : Cx} {pins : List (Addr × Obj)} {σ : St} {H : Hp} {s s' : Shared}
theorem Inv.env0 (I : Inv X pins σ H s) : Env0 X.prog X.w X.K X.mg X.base X.A X.stack s H :=
  ⟨I.ok.frames, I.ok.mod, I.bs, Nat.le_trans I.ok.bsz I.sz, I.stack, I.stkFree, I.hok, I.bare⟩
theorem Inv.after {Q : VK} {u : Value} (I : Inv X pins σ H s) (h : CE X.stack X.prog X.w H s Q u s') : EP X pins σ Q u s' := by
  obtain ⟨v, H', os, bare, un, hok, r, q⟩ := h
  obtain ⟨hh, g, d, t, os'⟩ := s'
  obtain rfl : os' = s.os := os
  exact ⟨v, H', I.call (h' := hh) (g' := g) (d' := d) (t' := t) (ch := []) un hok bare (fun b z => absurd z (by simp)), r, q⟩
end

def tCall (sp : Sp) (dvs : List V) (E : XK) (t : TA) : TE := fun σ H Q => t σ H fun vs H1 => sp (vs ++ dvs) H1 Q E
def Binds (K : PySem.W.Frag) (fd : FuncData) (ps : List Str) (ds : List Value) : Prop :=
  ∀ (s : Shared) (us : List Value), K.In s.heap → (us ++ ds).length = ps.length → BindsTo s fd ⟨us, []⟩ (ps.zip (us ++ ds))
theorem Binds.all {K : PySem.W.Frag} {fd : FuncData} {ps : List Str} (h : ∀ us : List Value, us.length = ps.length → bindArgs fd ⟨us, []⟩ = pure (ps.zip us)) : Binds K fd ps [] := fun s us _ hl => by
  rw [List.append_nil] at hl ⊢
  exact .of_eq (h us hl)

def Passes (CX : CXT) (X : Cx) (E : XK) : Prop := ∀ (pins : List (Addr × Obj)) (σ : St) (H : Hp) (s : Shared) (e : Value) (s' : Shared), Inv X pins σ H s → CX X.stack H s E e s' → X.xe e s'

section
variable {X : Cx} {CX : CXT} {k : Nat} {f C : Addr} {fd : FuncData} {ps : List Str} {sp : Sp} {dvs : List V} {ds : List Value} {E : XK} {x m : Str} {p pos apos : Pos} {e o : Expr} {es : List Expr} {ta : TE} {t : TA}

theorem run_fn {pins : List (Addr × Obj)} {σ : St} {H : Hp} {s : Shared} {Q : VK} {us : List Value} {vs : List V} (F : FnOk X.prog X.w X.K X.mg X.base CX k f fd ps sp) (hr : Room k X.A) (hb : Binds X.K fd ps ds) (hd : Vals dvs ds) (hx : Passes CX X E)
    (I : Inv X pins σ H s) (r : Vals vs us) (h : sp (vs ++ dvs) H Q E) : wpAny (model X.prog X.w) X.A (call (.ref f) us) (EP X pins σ Q) X.xe s := by
  have r2 : Vals (vs ++ dvs) (us ++ ds) := r.append hd
  have hl : (us ++ ds).length = ps.length := by rw [← r2.length]; exact F.len _ _ _ _ h
  refine wpAny_call (codeAny_mono (F.run X.A X.stack s H ⟨us, []⟩ (us ++ ds) (vs ++ dvs) Q E hr I.env0 (hb s us I.kIn hl) r2 h) fun r s' hq => ?_)
  cases r with
  | error e => exact hx pins σ H s e s' I hq
  | ok fl =>
    cases fl with
    | ret u => exact I.after hq
    | next => exact False.elim hq
    | brk => exact False.elim hq
    | cont => exact False.elim hq

theorem pe_call (F : FnOk X.prog X.w X.K X.mg X.base CX k f fd ps sp) (hr : Room k X.A) (hg : Gl X x) (hm : X.mg x = some (.ref f)) (hk : PySem.W.keepIn X.K (.ref f) = true) (hb : Binds X.K fd ps ds) (hd : Vals dvs ds) (hx : Passes CX X E)
    (ha : PA X (e :: es) t) (hdb : (x == ("__debug__" : Str)) = false := by decide) (he : starEach (e :: es) X.env = (false, eval e X.env) :: starEach es X.env := by rfl) (hpl : (backTo pos (starEach es X.env)).any (·.1) = false := by rfl) :
    PE X (.Call (.Name x p) (e :: es) [] pos) (tCall sp dvs E t) := by
  intro pins s σ H Q I h
  refine wpAny_Call_Name_kw (ld_glob I hg hm ?_ hdb)
  refine PySem.W.callWith_K (h₀ := X.base) I.ok.mod.kin hk (thn (ha pos pins s σ H _ I h) fun us s1 ⟨vs, H1, I1, r, q⟩ => ⟨I1.kIn, ?_⟩) he hpl
  exact run_fn F hr hb hd hx I1 r q
end

section
variable {X : Cx} {CX : CXT} {k : Nat} {f C : Addr} {fd : FuncData} {ps ks : List Str} {sp : Sp} {E : XK} {x m : Str} {p pos apos kpos : Pos} {e o : Expr} {es : List Expr} {kws : List Keyword} {te ta : TE} {t tk : TA} {nm : Option Str}
variable {g : List Value → List Value → List Value} {gV : List V → List V → List V}
end

structure FnScope (N P : List Str) (sc : Scope) : Prop where
  kind : sc.kind = .function
  co : sc.isCoroutine = false
  gen : sc.isGenerator = false
  nd : N.Nodup
  pre : N.take P.length = P
  par : ∀ x ∈ P, sc.names.lookup x = some .local ∨ sc.names.lookup x = some .cell
  nofree : ∀ y ∈ sc.names, y.2 ≠ .free

theorem bindL_out {kindOf : Str → Option NameKind} {x : Str} : ∀ {binds : List (Str × Value)} {m : Str → Option Value}, (∀ v, (x, v) ∉ binds) → bindL kindOf binds m x = m x
  | [], _, _ => rfl
  | (n, v) :: r, m, h => by
    unfold bindL
    rw [bindL_out fun w hw => h w (List.mem_cons_of_mem _ hw)]
    split
    · have : x ≠ n := by rintro rfl; exact h v List.mem_cons_self
      simp [this]
    · rfl
theorem bindC_out {kindOf : Str → Option NameKind} {x : Str} : ∀ {binds : List (Str × Value)} {m : Str → Option Value}, (∀ v, (x, v) ∉ binds) → bindC kindOf binds m x = m x
  | [], _, _ => rfl
  | (n, v) :: r, m, h => by
    unfold bindC
    rw [bindC_out fun w hw => h w (List.mem_cons_of_mem _ hw)]
    split
    · rfl
    · have : x ≠ n := by rintro rfl; exact h v List.mem_cons_self
      simp [this]
theorem bindL_get {kindOf : Str → Option NameKind} {x : Str} {v : Value} : ∀ {P : List Str} {vs : List Value} {i : Nat} {m : Str → Option Value}, P.Nodup → P[i]? = some x → vs[i]? = some v → kindOf x = some .local →
    bindL kindOf (P.zip vs) m x = some v
  | [], _, _, _, _, h, _, _ => by simp at h
  | _ :: _, [], _, _, _, _, h, _ => by simp at h
  | p :: P, w :: vs, 0, m, nd, h1, h2, hk => by
    simp at h1 h2; subst h1; subst h2
    show bindL kindOf ((p, w) :: P.zip vs) m p = _
    unfold bindL
    rw [bindL_out fun v hv => (List.nodup_cons.mp nd).1 (List.of_mem_zip hv).1, if_pos hk]
    simp
  | p :: P, w :: vs, i + 1, m, nd, h1, h2, hk => by
    show bindL kindOf ((p, w) :: P.zip vs) m x = _
    unfold bindL
    exact bindL_get (i := i) (List.nodup_cons.mp nd).2 (by simpa using h1) (by simpa using h2) hk
theorem bindC_get {kindOf : Str → Option NameKind} {x : Str} {v : Value} : ∀ {P : List Str} {vs : List Value} {i : Nat} {m : Str → Option Value}, P.Nodup → P[i]? = some x → vs[i]? = some v → kindOf x ≠ some .local →
    bindC kindOf (P.zip vs) m x = some v
  | [], _, _, _, _, h, _, _ => by simp at h
  | _ :: _, [], _, _, _, _, h, _ => by simp at h
  | p :: P, w :: vs, 0, m, nd, h1, h2, hk => by
    simp at h1 h2; subst h1; subst h2
    show bindC kindOf ((p, w) :: P.zip vs) m p = _
    unfold bindC
    rw [bindC_out fun v hv => (List.nodup_cons.mp nd).1 (List.of_mem_zip hv).1, if_neg hk]
    simp
  | p :: P, w :: vs, i + 1, m, nd, h1, h2, hk => by
    show bindC kindOf ((p, w) :: P.zip vs) m x = _
    unfold bindC
    exact bindC_get (i := i) (List.nodup_cons.mp nd).2 (by simpa using h1) (by simpa using h2) hk

def start (N : List Str) (vs : List V) : St := vs.map some ++ List.replicate (N.length - vs.length) none

def cxOf (CX : CXT) (P : Program) (w : World) (K : PySem.W.Frag) (mg : Str → Option Value) (base : Heap) (N : List Str) (qual : Str) (scope : Scope) (f : Addr) (cd : Value) (A : Around) (outer : List Env) (s : Shared) (H : Hp) (E : XK) : Cx where
  prog := P
  w := w
  K := K
  mg := mg
  base := base
  A := A.deeper (envOfC qual scope s.heap.objs.size f cd)
  N := N
  s₀ := s
  H₀ := H
  env := envOfC qual scope s.heap.objs.size f cd
  outer := outer
  stack := envOfC qual scope s.heap.objs.size f cd :: outer
  ex := []
  calm := true
  fn := fun _ => true
  pn := []
  xe := fun e s' => wpAny (model P w) (A.deeper (envOfC qual scope s.heap.objs.size f cd)) (leaving (envOfC qual scope s.heap.objs.size f cd) e) (fun _ s'' => CX outer H s E e s'') (fun e' s'' => CX outer H s E e' s'') s'

theorem cell_has {sc : Scope} {n : Nat} {x : Str} (h : sc.names.lookup x = some .cell) : ∃ c, (cellsFrom n sc.names []).lookup x = some c := by
  have q := PySem.W.cellsFrom_some sc.names n [] (.inl h)
  exact Option.isSome_iff_exists.mp q

theorem inv_start {CX : CXT} {P : Program} {w : World} {K : PySem.W.Frag} {mg : Str → Option Value} {base : Heap} {N ps : List Str} {qual : Str} {scope : Scope} {f : Addr} {cd : Value} {A : Around} {outer : List Env} {s s1 : Shared} {H : Hp} {E : XK} {us : List Value} {vs : List V}
    (S : FnScope N ps scope) (hd : A.handled = none) (e0 : Env0 P w K mg base A outer s H) (hl : vs.length = ps.length) (r : Vals vs us)
    (x : InCallC s s.heap.objs.size (bindL (envOfC qual scope s.heap.objs.size f cd).kindOf (ps.zip us) fun _ => none) (cellsFrom (s.heap.objs.size + 1) scope.names []) (bindC (envOfC qual scope s.heap.objs.size f cd).kindOf (ps.zip us) fun _ => none) s1) :
    Inv (cxOf CX P w K mg base N qual scope f cd A outer s H E) [] (start N vs) H s1 := by
  have hpl : ps.length ≤ N.length := by have := congrArg List.length S.pre; rw [List.length_take] at this; omega
  obtain ⟨h1, tk, rfl, hk⟩ := x.done
  have noA : ∀ b : Addr, b ∉ (cxOf CX P w K mg base N qual scope f cd A outer s H E).ex := fun b z => absurd (show b ∈ ([] : List Addr) from z) (by simp)
  refine ⟨⟨e0.mod, S.kind, rfl, rfl, Nat.le_refl _, fun y z c h1 h2 => ?_, fun y hy => ?_, fun y c _ h => ?_, fun _ => hd, Around.frames_deeper e0.frames, .inr ⟨rfl, rfl⟩, fun b z => absurd z (noA b), e0.bs, e0.bsz, fun b _ _ => noA b, fun b z => absurd z (noA b), e0.funs, e0.frf⟩,
    rfl, e0.bare, Un.kept hk, ⟨_, x.toInCall.ns, fun i y v h1 h2 h3 => ?_⟩, fun y c h => ⟨_, x.cell y c h⟩, e0.hok.fresh (Nat.le_refl _), fun y c h => ?_, fun p hp => absurd (show p ∈ ([] : List (Addr × Obj)) from hp) (by simp), e0.hok.kept hk, ?_⟩
  · exact name_of_addr x.apart (PySem.mem_of_lookup h1) (PySem.mem_of_lookup h2)
  · have hy : scope.names.lookup y = some .cell ∨ scope.names.lookup y = some .free := hy
    rcases hy with hy | hy
    · exact cell_has hy
    · exact absurd rfl (S.nofree _ (PySem.mem_of_lookup hy))
  · exact Nat.le_of_lt (x.above y c (PySem.mem_of_lookup h))
  · have hi : i < vs.length := by
      unfold start at h2
      by_cases hi : i < vs.length
      · exact hi
      · rw [List.getElem?_append_right (by simpa using hi)] at h2
        rw [List.getElem?_replicate] at h2
        split at h2 <;> cases h2
    have ha : vs[i]? = some v := by
      unfold start at h2
      rw [List.getElem?_append_left (by simpa using hi), List.getElem?_map] at h2
      cases e : vs[i]? with
      | none => rw [e] at h2; cases h2
      | some a => rw [e] at h2; cases h2; rfl
    obtain ⟨u, hu, rv⟩ := r.get ha
    have hp : ps[i]? = some y := by
      rw [← S.pre, List.getElem?_take_of_lt (by omega)]; exact h1
    have ndP : ps.Nodup := by rw [← S.pre]; exact S.nd.sublist (List.take_sublist _ _)
    refine ⟨u, rv, ?_⟩
    rcases S.par y (List.mem_of_getElem? hp) with k | k
    · exact .inl ⟨k, bindL_get ndP hp hu k⟩
    · obtain ⟨c, e⟩ := cell_has (n := s.heap.objs.size + 1) k
      refine .inr ⟨.inl k, c, e, ?_⟩
      have q := x.cell y c e
      rw [bindC_get ndP hp hu (by show scope.names.lookup y ≠ _; rw [k]; decide)] at q
      exact q
  · exact e0.hok.fresh (Nat.le_of_lt (x.above y c (PySem.mem_of_lookup h)))
  · unfold start
    show _ = N.length
    rw [List.length_append, List.length_map, List.length_replicate]
    omega

theorem fn_of {CX : CXT} {P : Program} {w : World} {K : PySem.W.Frag} {mg : Str → Option Value} {base : Heap} {k : Nat} {f : Addr} {name qual : Str} {params : Arguments} {body : List Stmt} {scope : Scope} {dV kV doc pm cdv ct oc : Value} {an od : Option Addr}
    {osl : Array (Option Value)} {N ps : List Str} {sp : Sp} (lk : K.lookup f = some ⟨oc, od, .func (PySem.W.fnOf name qual params body scope dV kV doc pm an cdv ct), osl⟩) (hcd : PySem.W.codeIn K cdv qual = true) (S : FnScope N ps scope)
    (len : ∀ vs H Q E, sp vs H Q E → vs.length = ps.length)
    (hbody : ∀ (A : Around) (outer : List Env) (s : Shared) (H : Hp) (vs : List V) (Q : VK) (E : XK), Room k (A.deeper (envOfC qual scope s.heap.objs.size f cdv)) → sp vs H Q E →
      ∃ t, PSs (cxOf CX P w K mg base N qual scope f cdv A outer s H E) body t ∧ t { nx := fun _ H' => Q .non H', rt := Q } (start N vs) H) :
    FnOk P w K mg base CX (k + 1) f (PySem.W.fnOf name qual params body scope dV kV doc pm an cdv ct) ps sp := by
  refine ⟨len, fun A outer s H args us vs Q E hr e0 hb r hsp => ?_⟩
  have hl := len _ _ _ _ hsp
  have KX : K.In s.heap := e0.mod.kin.keeps fun b o e => (e0.bs b o e).1
  have lim : s.heap.NoLimit := e0.mod.nolimit.keeps fun b o e => (e0.bs b o e).1
  have hkind : ∀ y ∈ ps.zip us, scope.names.lookup y.1 = some .local ∨ (scope.names.lookup y.1 = some .cell ∧ ((cellsFrom (s.heap.objs.size + 1) scope.names []).lookup y.1).isSome = true) := fun ⟨n, v⟩ hy => by
    rcases S.par n (List.of_mem_zip hy).1 with q | q
    · exact .inl q
    · exact .inr ⟨q, PySem.W.cellsFrom_some _ _ _ (.inl q)⟩
  refine codeAny_call_function hr.depth (KX _ _ lk) rfl S.co S.gen rfl (PySem.W.codeRec_of KX hcd) (hb _ _ _ _ ?_)
  refine wpAny_newFunctionEnv_cells S.kind hkind fun env he s1 x => ?_
  subst he
  refine ⟨lim.keeps x.toInCall.keep, codeAny_func ?_⟩
  obtain ⟨t, ht, hq⟩ := hbody A outer s H vs Q E (hr.deeper _) hsp
  have I : Inv (cxOf CX P w K mg base N qual scope f cdv A outer s H E) [] (start N vs) H s1 := inv_start S hr.hd e0 hl r x
  refine wpAny_mono (ht [] s1 (start N vs) H _ I hq) (fun fl s' hs => ?_) fun e s' hs => hs
  have fin : ∀ {σ' : St} {H' : Hp} {v : V} {u : Value}, Inv (cxOf CX P w K mg base N qual scope f cdv A outer s H E) [] σ' H' s' → RelV v u → Q v H' → CE outer P w H s Q u s' :=
    fun {σ' H' v u} J rv q => ⟨v, H', J.os, J.bare, J.base, J.hok, rv, q⟩
  cases fl with
  | ret u =>
    obtain ⟨v, σ', H', J, rv, q⟩ := hs
    exact fin J rv q
  | next =>
    obtain ⟨σ', H', J, q⟩ := hs
    exact fin (v := V.non) (u := Value.none) J rfl q
  | brk =>
    obtain ⟨_, _, _, q⟩ := hs
    exact False.elim q
  | cont =>
    obtain ⟨_, _, _, q⟩ := hs
    exact False.elim q
end L2

namespace L2
open PySem PySem.Spec PyProof.Rows
section
variable {X : Cx} {x : Str} {p pos : Pos} {e : Expr} {es : List Expr} {t : TA} {id T : String} {r : List V → Hp → VK → Prop}

def tCB (r : List V → Hp → VK → Prop) (t : TA) : TE := fun σ H Q => t σ H fun vs H1 => r vs H1 Q
theorem pe_callB (hc : CallR X (.builtin id) r) (hg : Gl X x) (hm : X.mg x = none) (hv : bootBuiltins x = some (.builtin id)) (ha : PA X (e :: es) t) (hn : x ≠ "__name__" := by decide) (hdb : (x == ("__debug__" : Str)) = false := by decide)
    (he : starEach (e :: es) X.env = (false, eval e X.env) :: starEach es X.env := by rfl) (hpl : (backTo pos (starEach es X.env)).any (·.1) = false := by rfl) : PE X (.Call (.Name x p) (e :: es) [] pos) (tCB r t) := by
  intro pins s σ H Q I h
  refine wpAny_Call_Name_kw (ld_blt I hg hm hv ?_ hn hdb)
  exact PyProof.Rows.callWith_builtin1 (thn (ha pos pins s σ H _ I h) fun us s1 ⟨vs, H1, I1, r1, q1⟩ => hc pins s1 σ H1 vs us Q I1 r1 q1) he hpl
end
end L2

namespace HT
open PySem PyProof.Rows

def lexLt : List Int → List Int → Bool
  | [], [] => false
  | [], _ :: _ => true
  | _ :: _, [] => false
  | x :: xs, y :: ys => if x = y then lexLt xs ys else decide (x < y)
theorem lexLt_cons (x y : Int) (xs ys : List Int) : lexLt (x :: xs) (y :: ys) = if x = y then lexLt xs ys else decide (x < y) := rfl
section
open PySem.SeqAt
open PySem.AutoSeq1 (wpAny_loadPart')
open PySem.MeetsSeq PySem.MeetsSeq2 PySem.MeetsSeq3

end

section
variable {prog : Program} {w : World} {A : Around} {E : Value → Shared → Prop} {s : Shared}

def sIx (n d : Nat) : Option Int → Nat
  | none => d
  | some v => if v < 0 then (v + (n : Int)).toNat else min v.toNat n
end
end HT

namespace L2
open PySem PySem.Spec PyProof.Rows

abbrev TO := St → Hp → (Option Int → Hp → Prop) → Prop
def PO (X : Cx) (e : Option Expr) (t : TO) : Prop :=
  ∀ (pins : List (Addr × Obj)) (s : Shared) (σ : St) (H : Hp) (Q : Option Int → Hp → Prop), Inv X pins σ H s → t σ H Q →
    wpAny (model X.prog X.w) X.A (evalPart e X.env) (fun u s' => ∃ o H', Inv X pins σ H' s' ∧ IsPart u o ∧ Q o H') X.xe s
def tPart (t : TE) : TO := fun σ H Q => t σ H fun x H1 => ∃ i, x = .int i ∧ Q (some i) H1

theorem intsAre_of {ns : List Int} : ∀ {us : List Value}, Vals (ns.map V.int) us → IntsAre us ns := by
  induction ns with
  | nil => intro us r; rw [List.map_nil] at r; cases r; exact .nil
  | cons n ns ih =>
    intro us r
    rw [List.map_cons] at r
    cases r with
    | cons r1 r2 =>
      obtain ⟨t, e⟩ := r1
      subst e
      exact .cons n t (ih r2)

section
variable {X : Cx} {e : Expr} {te : TE} {lo hi : Option Expr} {tl th : TO} {pos p2 : Pos}

theorem po_some (h : PE X e te) : PO X (some e) (tPart te) := by
  intro pins s σ H Q I hw
  rw [evalPart_some]
  refine thn (h pins s σ H _ I hw) fun u s1 ⟨x, H1, I1, r1, q1⟩ => ?_
  obtain ⟨i, rfl, q⟩ := q1
  obtain ⟨t, rfl⟩ := r1
  exact ⟨some i, H1, I1, .int i t, q⟩

def SlR (X : Cx) (r : V → Option Int → Option Int → Hp → VK → Prop) : Prop :=
  ∀ (pins : List (Addr × Obj)) (s : Shared) (σ : St) (H : Hp) (x : V) (v vl vu : Value) (lo hi : Option Int) (sl : Addr) (Q : VK), Inv X pins σ H s → RelV x v → s.heap.IsSliceOf sl vl vu .none → IsPart vl lo → IsPart vu hi → r x lo hi H Q →
    ∃ T id, typeLookup (.type T) "__getitem__" = pure (some (.builtin id)) ∧ s.TypeIs v T ∧ wpAny (model X.prog X.w) X.A (getItem v (.ref sl)) (EP X pins σ Q) X.xe s
theorem SlR.or {r r' : V → Option Int → Option Int → Hp → VK → Prop} (h : SlR X r) (h' : SlR X r') : SlR X (fun x lo hi H Q => r x lo hi H Q ∨ r' x lo hi H Q) := by
  intro pins s σ H x v vl vu lo hi sl Q I rx hs pl pu q
  rcases q with q | q
  · exact h pins s σ H x v vl vu lo hi sl Q I rx hs pl pu q
  · exact h' pins s σ H x v vl vu lo hi sl Q I rx hs pl pu q
def tSl (r : V → Option Int → Option Int → Hp → VK → Prop) (te : TE) (tl th : TO) : TE := fun σ H Q => te σ H fun x H1 => tl σ H1 fun l H2 => th σ H2 fun u H3 => r x l u H3 Q
theorem pe_slice {r : V → Option Int → Option Int → Hp → VK → Prop} (hr : SlR X r) (he : PE X e te) (hl : PO X lo tl) (hu : PO X hi th) : PE X (.Subscript e (.Slice lo hi none p2) pos) (tSl r te tl th) := by
  intro pins s σ H Q I h
  refine Subscript_ (thn (he pins s σ H _ I h) fun v s1 ⟨x, H1, I1, r1, q1⟩ => ?_)
  refine wpAny_Slice (thn (hl pins s1 σ H1 _ I1 q1) fun vl s2 ⟨l, H2, I2, pl, q2⟩ => thn (hu pins s2 σ H2 _ I2 q2) fun vu s3 ⟨u, H3, I3, pu, q3⟩ => ?_)
  rw [evalPart_none]
  refine wpAny_pure ?_
  have I4 : Inv X pins σ H3 { s3 with heap := s3.heap.push { cls := .type "slice", data := .fields #[vl, vu, .none] } } := I3.kept (t' := s3.toks) fun b ob q => Heap.get?_push_of_some _ q
  obtain ⟨T, id, hT, ht, hg⟩ := hr pins { s3 with heap := s3.heap.push { cls := .type "slice", data := .fields #[vl, vu, .none] } } σ H3 x v vl vu l u s3.heap.objs.size Q I4 r1 (Heap.IsSliceOf.new ..) pl pu q3
  show wpAny (model X.prog X.w) X.A (subscriptTail e (.Slice lo hi none p2) v (.ref s3.heap.objs.size)) (EP X pins σ Q) X.xe { s3 with heap := s3.heap.push { cls := .type "slice", data := .fields #[vl, vu, .none] } }
  exact tail_any (ops := [.ref s3.heap.objs.size, v]) ht hT hg (by with_unfolding_all rfl)

def cutV (xs : List V) (lo hi : Option Int) : List V := (xs.drop (HT.sIx xs.length 0 lo)).take (HT.sIx xs.length xs.length hi - HT.sIx xs.length 0 lo)
theorem cutV_length (xs : List V) (lo hi : Option Int) : (cutV xs lo hi).length ≤ xs.length := by
  unfold cutV
  rw [List.length_take, List.length_drop]
  omega
end
end L2

namespace L2
open PySem PySem.Spec PyProof.Rows

def ixN (n : Nat) (i : Int) : Option Nat := if 0 ≤ i then (if i < n then some i.toNat else none) else if -(n : Int) ≤ i then some (i + n).toNat else none
def atI {α : Type} (xs : List α) (i : Int) : Option α := (ixN xs.length i).bind fun j => xs[j]?
theorem ixN_seq {n : Nat} {i : Int} {j : Nat} (h : ixN n i = some j) : seqIndex? i n = some j ∧ j < n ∧ -(n : Int) ≤ i ∧ i < n := by
  unfold ixN at h
  by_cases h0 : 0 ≤ i
  · rw [if_pos h0] at h
    by_cases h1 : i < n
    · rw [if_pos h1] at h
      have e : i.toNat = j := Option.some.inj h
      exact ⟨by rw [seqIndex_of h0 h1, e], by omega, by omega, h1⟩
    · rw [if_neg h1] at h; cases h
  · rw [if_neg h0] at h
    by_cases h1 : -(n : Int) ≤ i
    · rw [if_pos h1] at h
      have e : (i + n).toNat = j := Option.some.inj h
      exact ⟨by rw [seqIndex_neg (by omega) h1, e], by omega, h1, by omega⟩
    · rw [if_neg h1] at h; cases h
theorem atI_get {α : Type} {xs : List α} {i : Int} {v : α} (h : atI xs i = some v) : ∃ j, seqIndex? i xs.length = some j ∧ xs[j]? = some v ∧ j < xs.length ∧ -(xs.length : Int) ≤ i ∧ i < xs.length := by
  unfold atI at h
  cases e : ixN xs.length i with
  | none => rw [e] at h; cases h
  | some j =>
    rw [e] at h
    obtain ⟨h1, h2, h3, h4⟩ := ixN_seq e
    exact ⟨j, h1, h, h2, h3, h4⟩
theorem atI_nat {α : Type} {xs : List α} {j : Nat} {v : α} (h : xs[j]? = some v) : atI xs (j : Int) = some v := by
  have hj : j < xs.length := (List.getElem?_eq_some_iff.mp h).1
  have e : ixN xs.length (j : Int) = some j := by
    unfold ixN
    rw [if_pos (by omega), if_pos (by omega)]; simp
  unfold atI; rw [e]; exact h
def PlainIx (b : Expr) : Prop := ∀ o i, subscripted b false o i = operate [o, i] (getItem o i)
def IxR (X : Cx) (r : R2) : Prop :=
  ∀ (value slice : Expr) (pins : List (Addr × Obj)) (s : Shared) (σ : St) (H : Hp) (x y : V) (v u : Value) (Q : VK), Inv X pins σ H s → RelV x v → RelV y u → r x y H Q →
    subscripted slice false v u = operate [v, u] (getItem v u) → wpAny (model X.prog X.w) X.A (subscriptTail value slice v u) (EP X pins σ Q) X.xe s
def MtR (X : Cx) (id : String) (r : V → List V → Hp → VK → Prop) : Prop :=
  ∀ (pins : List (Addr × Obj)) (s : Shared) (σ : St) (H : Hp) (x : V) (xs : List V) (v : Value) (us : List Value) (Q : VK), Inv X pins σ H s → RelV x v → Vals xs us → r x xs H Q →
    wpAny (model X.prog X.w) X.A (call (.builtin id) (v :: us)) (EP X pins σ Q) X.xe s
section
variable {X : Cx} {a b : Expr} {ta tb : TE} {pos : Pos}
theorem IxR.or {r r' : R2} (h : IxR X r) (h' : IxR X r') : IxR X (fun x y H Q => r x y H Q ∨ r' x y H Q) := by
  intro value slice pins s σ H x y v u Q I rx ry q hs
  rcases q with q | q
  · exact h value slice pins s σ H x y v u Q I rx ry q hs
  · exact h' value slice pins s σ H x y v u Q I rx ry q hs
theorem MtR.or {id : String} {r r' : V → List V → Hp → VK → Prop} (h : MtR X id r) (h' : MtR X id r') : MtR X id (fun x xs H Q => r x xs H Q ∨ r' x xs H Q) := by
  intro pins s σ H x xs v us Q I rx rs q
  rcases q with q | q
  · exact h pins s σ H x xs v us Q I rx rs q
  · exact h' pins s σ H x xs v us Q I rx rs q
theorem pe_ix {r : R2} (hr : IxR X r) (ha : PE X a ta) (hb : PE X b tb) (hs : PlainIx b) : PE X (.Subscript a b pos) (tOp r ta tb) := by
  intro pins s σ H Q I h
  exact Subscript_ (binT ha hb I h fun v u s2 x y H2 I2 rx ry q => hr a b pins s2 σ H2 x y v u Q I2 rx ry q (hs _ _))

def rIxL (K : PySem.W.Frag) : R2 := fun x y H Q => ∃ p xs i v, x = .ref p ∧ y = .int i ∧ SqL K H p xs ∧ atI xs i = some v ∧ Q v H
def rIxT (K : PySem.W.Frag) : R2 := fun x y H Q => ∃ p xs i v, x = .ref p ∧ y = .int i ∧ SqT K H p xs ∧ atI xs i = some v ∧ Q v H
def rIxS : R2 := fun x y H Q => ∃ z i c, x = .str z ∧ y = .int i ∧ z.length ≤ sizeLine ∧ atI z.cps.toList i = some c ∧ Q (.str ⟨#[c]⟩) H
theorem ix_list : IxR X (rIxL X.K) := by
  intro value slice pins s σ H x y v u Q I rx ry h hs
  obtain ⟨p, xs, i, z, rfl, rfl, hq, he, q⟩ := h
  cases rx
  obtain ⟨t, rfl⟩ := ry
  obtain ⟨its, r, pl, hz⟩ := I.list hq
  obtain ⟨j, h1, h2, h3, h4, h5⟩ := atI_get he
  obtain ⟨w, ew, rw'⟩ := r.get h2
  have hl := r.length
  have hn := line63
  have fin : EP X pins σ Q w s := ⟨z, H, I, rw', q⟩
  by_cases h0 : 0 ≤ i
  · have hj : i.toNat = j := by
      rw [seqIndex_of h0 h5] at h1
      exact Option.some.inj h1
    exact item_listR pl.isList h0 (by omega) (by rw [hj]; simpa using ew) fin hs
  · have hj : (i + (its.toArray.size : Int)).toNat = j := by
      rw [seqIndex_neg (by omega) h4] at h1
      rw [List.size_toArray, ← hl]
      exact Option.some.inj h1
    exact subscriptTail_builtinR (x := w) pl.isList.typeIs slot_list_getitem.lookup
      (wpAny_getItem_list_neg (Q := fun r s' => r = w ∧ EP X pins σ Q r s') pl.isList (by omega) (by rw [List.size_toArray] <;> omega) (by omega) (by rw [hj]; simpa using ew) ⟨rfl, fin⟩) hs
theorem ix_tup : IxR X (rIxT X.K) := by
  intro value slice pins s σ H x y v u Q I rx ry h hs
  obtain ⟨p, xs, i, z, rfl, rfl, hq, he, q⟩ := h
  cases rx
  obtain ⟨t, rfl⟩ := ry
  obtain ⟨its, r, pl, hz⟩ := I.tuple hq
  obtain ⟨j, h1, h2, h3, h4, h5⟩ := atI_get he
  obtain ⟨w, ew, rw'⟩ := r.get h2
  have hl := r.length
  have hn := line63
  have fin : EP X pins σ Q w s := ⟨z, H, I, rw', q⟩
  exact subscriptTail_builtinR (x := w) pl.typeIs slot_tuple_getitem.lookup
    (getItem_tuple (j := j) (Q := fun r s' => r = w ∧ EP X pins σ Q r s') pl (by omega) (by omega) (by rw [List.size_toArray, ← hl]; exact h1) (by simpa using ew) ⟨rfl, fin⟩) hs
theorem ix_str : IxR X rIxS := by
  intro value slice pins s σ H x y v u Q I rx ry h hs
  obtain ⟨z, i, c, rfl, rfl, hz, he, q⟩ := h
  obtain ⟨t, rfl⟩ := rx
  obtain ⟨t', rfl⟩ := ry
  obtain ⟨j, h1, h2, h3, h4, h5⟩ := atI_get he
  have hl : z.cps.toList.length = z.length := by simp [Str.length]
  rw [hl] at h1 h4 h5
  have hn := line63
  exact tail_any (typeIs_str s z t) slot_str_getitem.lookup (getItem_str (c := c) (by
    have e1 : decide (i < -(2 ^ 63 : Int)) = false := decide_eq_false (by omega)
    have e2 : decide (i ≥ 2 ^ 63) = false := decide_eq_false (by omega)
    rw [e1, e2, Bool.or_false]) (by rw [h1]; simpa using h2) ⟨.str ⟨#[c]⟩, H, I.tok _, ⟨_, rfl⟩, q⟩) hs
def rIx (K : PySem.W.Frag) : R2 := fun x y H Q => rIxL K x y H Q ∨ rIxT K x y H Q ∨ rIxS x y H Q
theorem ix_seq : IxR X (rIx X.K) := ix_list.or (ix_tup.or ix_str)

theorem Inv.lst {pins : List (Addr × Obj)} {σ : St} {H : Hp} {s : Shared} {p : Addr} {xs : List V} (I : Inv X pins σ H s) (h : H p = some (.lst xs)) :
    ∃ (its : List Value) (n : Nat), Vals xs its ∧ s.heap.get? p = some { cls := .type "list", data := .seq its.toArray n } ∧ xs.length ≤ sizeLine := by
  obtain ⟨z, its, n, r, e⟩ := I.hok p _ h
  exact ⟨its, n, r, e, z⟩
theorem slice_bounds (lo hi : Option Int) (n : Nat) : (sliceBounds lo hi none n).1 = ((HT.sIx n 0 lo : Nat) : Int) ∧ (sliceBounds lo hi none n).2.1 = ((HT.sIx n n hi : Nat) : Int) ∧ (sliceBounds lo hi none n).2.2 = 1 := by
  refine ⟨?_, ?_, rfl⟩
  · cases lo with
    | none => simp [sliceBounds, HT.sIx]
    | some i =>
      simp only [sliceBounds, HT.sIx, Option.getD_none, show (1 : Int) > 0 by decide, if_true]
      by_cases h : i < 0
      · simp only [h, if_true] <;> omega
      · simp only [h, if_false] <;> omega
  · cases hi with
    | none => simp [sliceBounds, HT.sIx]
    | some i =>
      simp only [sliceBounds, HT.sIx, Option.getD_none, show (1 : Int) > 0 by decide, if_true]
      by_cases h : i < 0
      · simp only [h, if_true] <;> omega
      · simp only [h, if_false] <;> omega
theorem slicePick_cut (its : List Value) (lo hi : Option Int) : slicePick its.toArray lo hi none = ((its.drop (HT.sIx its.length 0 lo)).take (HT.sIx its.length its.length hi - HT.sIx its.length 0 lo)).toArray := by
  obtain ⟨h1, h2, h3⟩ := slice_bounds lo hi its.toArray.size
  unfold slicePick
  rw [h1, h2, h3]
  simp only [sliceRange_one, pick_run, List.size_toArray] <;> rfl
def rSlL (K : PySem.W.Frag) : V → Option Int → Option Int → Hp → VK → Prop := fun x lo hi H Q => ∃ a xs, x = .ref a ∧ SqL K H a xs ∧ ∀ p, H p = none → Q (.ref p) (upd H p (.lst (cutV xs lo hi)))
theorem sl_list : SlR X (rSlL X.K) := by
  intro pins s σ H x v vl vu lo hi sl Q I rx hs pl pu h
  obtain ⟨a, xs, rfl, hx, q⟩ := h
  cases rx
  obtain ⟨its, r, ht, hz⟩ := I.list hx
  have hlen := r.length
  refine ⟨"list", _, slot_list_getitem.lookup, ht.isList.typeIs, ?_⟩
  refine wpAny_getItem_list_slice ht.isList hs pl pu .none (by simp) ?_ (by rw [List.size_toArray] <;> omega)
  rw [slicePick_cut, ← hlen]
  refine ⟨.ref s.heap.objs.size, _, I.laid (t' := s.toks) (o := .lst (cutV xs lo hi)) (fun b ob q => Heap.get?_push_of_some _ q) (Nat.le_refl _) ?_, rfl, q _ (I.hok.fresh (Nat.le_refl _))⟩
  exact ⟨Nat.le_trans (cutV_length xs lo hi) hz, _, 0, (r.drop (HT.sIx xs.length 0 lo)).take (HT.sIx xs.length xs.length hi - HT.sIx xs.length 0 lo), Heap.get?_push_size _ rfl⟩

theorem call_len_seq : CallR X (.builtin "len") (fun xs H Q => ∃ p ys, xs = [.ref p] ∧ (SqL X.K H p ys ∨ SqT X.K H p ys) ∧ Q (.int ys.length) H) := by
  intro pins s σ H xs us Q I r h
  obtain ⟨p, ys, rfl, hq, q⟩ := h
  obtain ⟨u, rfl, rx⟩ := vals1 r
  cases rx
  have hn := line63
  rcases hq with hq | hq
  · obtain ⟨its, r', pl, hz⟩ := I.list hq
    have hlen := r'.length
    exact Calls.call_len_list pl.isList (by simp only [List.size_toArray] <;> omega) ⟨.int ys.length, H, I.tok _, ⟨s.toks + 1, by rw [List.size_toArray, hlen]⟩, q⟩
  · obtain ⟨its, r', pl, hz⟩ := I.tuple hq
    have hlen := r'.length
    exact len_tuple pl (by simp only [List.size_toArray] <;> omega) ⟨.int ys.length, H, I.tok _, ⟨s.toks + 1, by rw [List.size_toArray, hlen]⟩, q⟩
theorem CallR.or {f : Value} {r r' : List V → Hp → VK → Prop} (h : CallR X f r) (h' : CallR X f r') : CallR X f (fun xs H Q => r xs H Q ∨ r' xs H Q) := by
  intro pins s σ H xs us Q I rs q
  rcases q with q | q
  · exact h pins s σ H xs us Q I rs q
  · exact h' pins s σ H xs us Q I rs q
def tyV (K : PySem.W.Frag) (T : String) (x : V) (H : Hp) : Prop := match x with
  | .str _ => T = "str"
  | .int _ => T = "int"
  | .ref p => (T = "list" ∧ ∃ xs, SqL K H p xs) ∨ (T = "tuple" ∧ ∃ o, K.lookup p = some o ∧ o.cls = .type "tuple" ∧ o.dict = none) ∨
      (T = "dict" ∧ ((∃ kvs, H p = some (.dK kvs)) ∨ ∃ kvs, H p = some (.dT kvs))) ∨ (T = "set" ∧ ∃ S n, H p = some (.set S n))
  | _ => False
theorem tyV_is {pins : List (Addr × Obj)} {σ : St} {H : Hp} {s : Shared} {T : String} {x : V} {v : Value} (I : Inv X pins σ H s) (r : RelV x v) (ty : tyV X.K T x H) :
    s.TypeIs v T ∧ ∀ a, v = .ref a → ∃ ob, s.heap.get? a = some ob ∧ ob.dict = none := by
  cases x with
  | str z =>
    obtain ⟨t, rfl⟩ := r
    cases (show T = "str" from ty)
    exact ⟨typeIs_str s z t, fun _ e => nomatch e⟩
  | int i =>
    obtain ⟨t, rfl⟩ := r
    cases (show T = "int" from ty)
    exact ⟨typeIs_int s i t, fun _ e => nomatch e⟩
  | ref p =>
    cases r
    rcases ty with ⟨rfl, xs, hq⟩ | ⟨rfl, o, hk, hc, hd⟩ | ⟨rfl, hk⟩ | ⟨rfl, S, n, hk⟩
    · obtain ⟨its, _, pl, _⟩ := I.list hq
      refine ⟨pl.isList.typeIs, fun a e => ?_⟩
      cases e
      obtain ⟨o, n, e, c, hd, _⟩ := pl
      exact ⟨o, e, hd⟩
    · refine ⟨⟨o, I.kIn p o hk, hc⟩, fun a e => ?_⟩
      cases e
      exact ⟨o, I.kIn _ o hk, hd⟩
    · have z : ∃ o, s.heap.get? p = some o ∧ o.ExactDict := by
        rcases hk with ⟨kvs, hk⟩ | ⟨kvs, hk⟩
        · obtain ⟨_, _, _, _, o, _, _, e, ex, _⟩ := I.hok p _ hk
          exact ⟨o, e, ex⟩
        · obtain ⟨_, _, _, _, o, _, _, e, ex, _⟩ := I.hok p _ hk
          exact ⟨o, e, ex⟩
      obtain ⟨o, e, ex⟩ := z
      refine ⟨⟨o, e, ex.1⟩, fun a e2 => ?_⟩
      cases e2
      exact ⟨o, e, ex.2.1⟩
    · obtain ⟨o, _, _, _, e, ex, _⟩ := I.hok p _ hk
      refine ⟨⟨o, e, ex.1⟩, fun a e2 => ?_⟩
      cases e2
      exact ⟨o, e, ex.2.1⟩
  | _ => exact False.elim ty
def tBM0 (K : PySem.W.Frag) (T : String) (r : V → List V → Hp → VK → Prop) (to : TE) : TE := fun σ H Q => to σ H fun x H1 => tyV K T x H1 ∧ r x [] H1 Q
def tBM (K : PySem.W.Frag) (T : String) (r : V → List V → Hp → VK → Prop) (to : TE) (t : TA) : TE := fun σ H Q => to σ H fun x H1 => tyV K T x H1 ∧ t σ H1 fun xs H2 => r x xs H2 Q
variable {o e : Expr} {es : List Expr} {to : TE} {t : TA} {name : Str} {apos cpos : Pos} {T id : String} {r : V → List V → Hp → VK → Prop}
theorem pe_bm0 (pa : PlainAttrs T) (slot : Slot T name id) (hty : typeOf (.builtin id) = pure (.type "method_descriptor")) (hm : MtR X id r) (ho : PE X o to)
    (hbase : attributeBase o name X.env (eval o X.env) = eval o X.env := by rfl) (hline : (apos.endLine == cpos.line) = true := by rfl) : PE X (.Call (.Attribute o name apos) [] [] cpos) (tBM0 X.K T r to) := by
  intro pins s σ H Q I h
  refine wpAny_Call_method0_late hbase hline (thn (ho pins s σ H _ I h) fun v s1 ⟨x, H1, I1, r1, ty, q1⟩ => ?_)
  obtain ⟨h1, h2⟩ := tyV_is I1 r1 ty
  exact ⟨T, id, pa, slot, hty, h1, h2, Calls.callWith_builtin rfl (PySem.evalArgs_none (hm pins s1 σ H1 x [] v [] Q I1 r1 .nil q1))⟩
theorem pe_bm (pa : PlainAttrs T) (slot : Slot T name id) (hty : typeOf (.builtin id) = pure (.type "method_descriptor")) (hm : MtR X id r) (ho : PE X o to) (ha : PA X (e :: es) t)
    (hbase : attributeBase o name X.env (eval o X.env) = eval o X.env := by rfl)
    (hfew : ((backTo cpos (starEach (e :: es) X.env)).all (fun x => !x.1) && (backToKw cpos (keywordEach [] X.env)).all (fun x => x.1.isSome)
      && decide ((e :: es).length + ([] : List Keyword).length + (if ([] : List Keyword).isEmpty then 0 else 1) < 30)) = true := by rfl)
    (hline : (apos.endLine == cpos.line) = true := by rfl) (hs : starEach (e :: es) X.env = (false, eval e X.env) :: starEach es X.env := by rfl) (hplain : (backTo cpos (starEach es X.env)).any (·.1) = false := by rfl) :
    PE X (.Call (.Attribute o name apos) (e :: es) [] cpos) (tBM X.K T r to t) := by
  intro pins s σ H Q I h
  refine wpAny_Call_method_late hbase hfew hline rfl (thn (ho pins s σ H _ I h) fun v s1 ⟨x, H1, I1, r1, ty, q1⟩ => ?_)
  obtain ⟨h1, h2⟩ := tyV_is I1 r1 ty
  refine ⟨T, id, pa, slot, hty, h1, h2, ?_⟩
  have hA := ha cpos pins s1 σ H1 _ I1 q1
  rw [hs] at hA ⊢
  refine Calls.callWith_builtin (by show (false || (backTo cpos (starEach es X.env)).any (·.1)) = false; rw [hplain] <;> rfl) (Calls.evalArgs_plain ?_)
  exact thn hA fun us s2 ⟨vs, H2, I2, r2, q2⟩ => hm pins s2 σ H2 x vs v us Q I2 r1 r2 q2
/- xs.append(e), list.index on a module's tuple .. are MtR facts of 06m -/
end
end L2

namespace L2
open PySem PySem.Spec PyProof.Rows

def MtM (X : Cx) (id : String) (r : V → List V → Hp → VK → Prop) : Prop :=
  ∀ (pins : List (Addr × Obj)) (s : Shared) (σ : St) (H : Hp) (x : V) (xs : List V) (v : Value) (us : List Value) (Q : VK), Inv X pins σ H s → RelV x v → Vals xs us → r x xs H Q →
    wpAny (model X.prog X.w) X.A (call (.builtin id) (v :: us)) (EP X pins σ Q) X.xe s

theorem Vals.one : ∀ {x : V} {us : List Value}, Vals [x] us → ∃ u, us = [u] ∧ RelV x u
  | _, _, .cons r .nil => ⟨_, rfl, r⟩
theorem Vals.two : ∀ {x y : V} {us : List Value}, Vals [x, y] us → ∃ u v, us = [u, v] ∧ RelV x u ∧ RelV y v
  | _, _, _, .cons r (.cons q .nil) => ⟨_, _, rfl, r, q⟩
theorem Vals.zero : ∀ {us : List Value}, Vals [] us → us = []
  | _, .nil => rfl
section
variable {X : Cx} {pins : List (Addr × Obj)} {σ : St} {H : Hp} {s : Shared} {l b : Addr} {xs ys zs : List V}

theorem Inv.lset {its its' : List Value} {n : Nat} {f : Array Value → Array Value} {t' : Nat} (I : Inv X pins σ H s) (hH : H l = some (.lst xs))
    (e : s.heap.get? l = some { cls := .type "list", data := .seq its.toArray n }) (hf : f its.toArray = its'.toArray) (hv : Vals ys its') (hz : ys.length ≤ sizeLine) :
    Inv X pins σ (upd H l (.lst ys)) { s with heap := s.heap.update l (Obj.mapSeq f), toks := t' } := by
  have q := PySem.IsL.update e f
  rw [hf] at q
  refine I.write (x := l) (e := l) (by rw [hH]; exact trivial) (.inl rfl) (fun b' u hb hu => (Heap.get?_update_other s.heap (Obj.mapSeq f) (Ne.symm hb)).trans hu) ⟨_, q⟩ ?_
  exact ⟨hz, its', _, hv, q⟩
theorem Inv.lnew {its : List Value} {t' : Nat} (I : Inv X pins σ H s) (hv : Vals ys its) (hz : ys.length ≤ sizeLine) :
    Inv X pins σ (upd H s.heap.objs.size (.lst ys)) { s with heap := s.heap.push { cls := .type "list", data := .seq its.toArray }, toks := t' } :=
  I.laid (fun _ _ q => Heap.get?_push_of_some _ q) (Nat.le_refl _) ⟨hz, its, 0, hv, Heap.get?_push_size _ rfl⟩
theorem Inv.fresh (I : Inv X pins σ H s) : H s.heap.objs.size = none := I.hok.fresh (Nat.le_refl _)
theorem Inv.lstM (I : Inv X pins σ H s) (hH : H l = some (.lst xs)) : xs.length ≤ sizeLine ∧ ∃ (its : List Value) (n : Nat), Vals xs its ∧ xs.length = its.length ∧ s.heap.get? l = some { cls := .type "list", data := .seq its.toArray n } := by
  obtain ⟨z, its, n, r, e⟩ := I.hok l _ hH
  exact ⟨z, its, n, r, r.length, e⟩

end

section
variable {X : Cx}

def rAppend : V → List V → Hp → VK → Prop := fun x vs H Q => ∃ l xs y, x = .ref l ∧ vs = [y] ∧ H l = some (.lst xs) ∧ xs.length < sizeLine ∧ Q .non (upd H l (.lst (xs ++ [y])))
theorem mt_append : MtM X "list.append" rAppend := by
  intro pins s σ H x vs v us Q I rx rv h
  obtain ⟨l, xs, y, rfl, rfl, hH, hz, q⟩ := h
  cases rx
  obtain ⟨u, rfl, ru⟩ := rv.one
  obtain ⟨z, its, n, r, hl, e⟩ := I.lstM hH
  refine call_meets F.slot_list_append ⟨_, e, rfl⟩ F.entry_list_append (F.args_list_append_2 _ _) (PySem.list_append l its.toArray n u (by rw [List.size_toArray]; omega)) ⟨e, ?_⟩
  refine ⟨.non, _, I.lset (its' := its ++ [u]) hH e (by simp) (r.append (.cons ru .nil)) ?_, rfl, q⟩
  rw [List.length_append, List.length_singleton]
  omega

def rClear : V → List V → Hp → VK → Prop := fun x vs H Q => ∃ l xs, x = .ref l ∧ vs = [] ∧ H l = some (.lst xs) ∧ Q .non (upd H l (.lst []))
theorem mt_clear : MtM X "list.clear" rClear := by
  intro pins s σ H x vs v us Q I rx rv h
  obtain ⟨l, xs, rfl, rfl, hH, q⟩ := h
  cases rx
  have hus := rv.zero
  subst hus
  obtain ⟨z, its, n, r, hl, e⟩ := I.lstM hH
  refine call_meets F.slot_list_clear ⟨_, e, rfl⟩ F.entry_list_clear (F.args_list_clear_1 _) (AutoSeq1.list_clear_list_0 l its.toArray n (by rw [List.size_toArray]; omega)) ⟨e, ?_⟩
  exact ⟨.non, _, I.lset (its' := []) (ys := []) hH e rfl .nil (Nat.zero_le _), rfl, q⟩

def rCat : R2 := fun x y H Q => ∃ l b xs zs, x = .ref l ∧ y = .ref b ∧ H l = some (.lst xs) ∧ H b = some (.lst zs) ∧ xs.length + zs.length ≤ sizeLine ∧ ∀ p, H p = none → Q (.ref p) (upd H p (.lst (xs ++ zs)))
theorem op_cat : OpR X (binaryOp .Add) rCat := by
  intro pins s σ H x y v u Q I rx ry h
  obtain ⟨l, b, xs, zs, rfl, rfl, hH, hB, hz, q⟩ := h
  cases rx
  cases ry
  obtain ⟨z, its, n, r, hl, e⟩ := I.lstM hH
  obtain ⟨z2, its2, n2, r2, hl2, e2⟩ := I.lstM hB
  refine PySem.P.add_list e e2 ?_ (by rw [List.size_toArray, List.size_toArray]; omega)
  have ea : its.toArray ++ its2.toArray = (its ++ its2).toArray := by simp
  rw [ea]
  exact ⟨.ref _, _, I.lnew (t' := s.toks) (r.append r2) (by rw [List.length_append]; omega), rfl, q _ I.fresh⟩
end

section
variable {prog : Program} {w : World} {A : Around} {E : Value → Shared → Prop} {s : Shared}
set_option maxRecDepth 100000 in
end

section
variable {X : Cx}
end
end L2

namespace Att
open PySem PySem.W PySem.Calls PyProof.Rows

theorem ints_of_wellAll {P : Params} {h : Heap} : ∀ (ns : List Int) (vs : List Value), WellAll P h vs (ns.map WData.int) → IntsAre vs ns := by
  intro ns
  induction ns with
  | nil =>
    intro vs w
    rw [List.map_nil] at w
    cases w
    exact .nil
  | cons n ns ih =>
    intro vs w
    rw [List.map_cons] at w
    cases w with
    | cons a b =>
      cases a
      exact .cons _ _ (ih _ b)

theorem script_of {l : OpenLaw} {n : Nat} (hn : l.most = some n) {P : Params} {h : Heap} {args : List WData} {vals : List Value}
    (hpre : l.row.toRowW.claim.pre args = true) (hwl : WellAll P h vals args) :
    ∃ a vs ns, vals = [Value.ref a] ∧ args = [WData.list (ns.map WData.int)] ∧ h.get? a = some { cls := .type "list", data := .seq vs.toArray } ∧ IntsAre vs ns ∧ ns.length ≤ n := by
  have hsh : WShape.hasAll [] args [.list .int] = true := (pre_splitW hpre).1
  have hc : l.pre.holds [] { args := args } = true := (pre_splitW hpre).2
  obtain ⟨d, r, rfl, h1, h2⟩ := hasAllW_cons hsh
  obtain rfl := hasAllW_nil h2
  obtain ⟨xs, rfl, h3⟩ := hasW_list h1
  obtain ⟨ns, rfl⟩ := items_int h3
  have hlen : ns.length ≤ n := by
    unfold OpenLaw.pre at hc
    have h4 : (WTm.not (.lt (.lit (.int (n : Int))) (.len (.arg 0)))).holds [] { args := [.list (ns.map .int)] } = true := by
      have h4 := (holds_andW hc).1
      rw [hn] at h4
      exact h4
    have h5 := condW_of h4 (w_not (w_lt w_lit (w_len_list (w_arg rfl))))
    rw [List.length_map] at h5
    refine Nat.le_of_not_lt fun q => ?_
    have q' : (n : Int) < ((ns.length : Nat) : Int) := by omega
    first
      | (rw [decide_eq_true q'] at h5; exact absurd h5 (by decide))
      | (simp at h5; omega)
  cases hwl with
  | cons w1 w2 =>
    cases w2
    cases w1 with
    | list ho hall => exact ⟨_, _, ns, rfl, rfl, ho, ints_of_wellAll ns _ hall, hlen⟩

theorem post_true (l : OpenLaw) (args : List WData) : l.row.toRowW.claim.post args (.bool true) args = true :=
  postW_of (r := l.row.toRowW) (X := (true == true))
    (show WShape.has [] (.bool true) .bool = true by first | rfl | decide | simp [WShape.has, WShape.arms, WShape.armsAll])
    (show (WTm.eq .res (.lit (.bool true))).value [] { args := args, res := some (.bool true), after := args } = some (.bool (true == true)) from w_eq_bool (w_res rfl) w_lit) rfl

theorem attach_call {l : OpenLaw} {n : Nat} {q : Program} {loose : List Str} {XP : (Str → Option Value) → Heap → Prop} {YP : World → Heap → Prop} {d : DefRec}
    (hn : l.most = some n) (hdf : d.params.defaults = [])
    (call : ∀ (w : World) (s₀ s₁ : Shared) (mg mb : Str → Option Value) (fa : Addr) (o : Obj) (pm cd doc : Value) (a : Addr) (vs : List Value) (ns : List Int),
      Ground q loose [] XP w s₀ mg mb s₁.heap → YP w s₁.heap →
      s₁.heap.get? fa = some o → o.data = .func (docDef d.name d.params d.body d.scope pm cd doc) → s₁.heap.CodeRec cd d.name → mg d.name = some (.ref fa) →
      s₁.heap.get? a = some { cls := .type "list", data := .seq vs.toArray } → IntsAre vs ns → ns.length ≤ n → s₁.gens = #[] →
      codeAny (model l.prog w) callerA (.call (.ref fa) ⟨[.ref a], []⟩) (fun r s' => r = .ok (.ret (.bool true)) ∧ OldK s₁.heap s'.heap ∧ s'.os = s₁.os ∧ AllBare s'.gens) s₁) :
    WalkO q loose XP YP l.row.toRowW d [] (fun f vs => PySem.call f vs) := by
  intro w s₀ s₁ mg mb G Y fa o pm cd doc dV kV ho hd hcd hD hmg hg args vals as hpre hlay hrd hwl hlo
  obtain rfl : dV = .none := Dflts.none hD hdf
  obtain rfl : kV = .none := Dflts.noKw hD
  obtain ⟨a, vs, ns, rfl, rfl, hobj, hints, hlen⟩ := script_of hn hpre hwl
  refine enter_call (codeAny_mono (call w s₀ s₁ mg mb fa o pm cd doc a vs ns G Y ho (fd_plain hd) hcd hmg hobj hints hlen hg) fun r s' hq => ?_)
  obtain ⟨rfl, h2, h3, h4⟩ := hq
  exact ⟨.inl ⟨.bool true, .bool true, [], rfl, fun _ => rfl, .bool true, post_true l _, fun _ => ⟨List.Pairwise.nil, fun _ hm => (nomatch hm)⟩⟩, h2, h3, h4⟩

section
variable {prog : Program} {w : World} {A : Around} {E : Value → Shared → Prop} {s : Shared} {K : Frag}

def ledger (h : Heap) (L d : Addr) : List (Addr × Obj) := (List.range h.objs.size).filterMap fun a => if a = L ∨ a = d then none else (h.get? a).map fun o => (a, o)
end
end Att

namespace L2
open PySem PySem.Spec PyProof.Rows

theorem vals_ints : ∀ {vs : List Value} {ns : List Int}, IntsAre vs ns → Vals (ns.map V.int) vs
  | _, _, .nil => .nil
  | _, _, .cons n t h => .cons ⟨t, rfl⟩ (vals_ints h)

def Only (H : Hp) : Prop := ∀ b, H b = none ∨ ∃ o xs, H b = some (.frz o (.lst xs))

theorem law_call {P : Program} {w : World} {K : PySem.W.Frag} {mg mb : Str → Option Value} {CX : CXT} {k : Nat} {fa a : Addr} {fd : FuncData} {x : Str} {sp : Sp} {s₁ : Shared} {vs : List Value} {ns : List Int}
    (KX : K.In s₁.heap) (hns : s₁.heap.Ns mainGlobals mg) (hb : s₁.heap.Ns builtinsNs mb) (hbb : ∀ x : Str, x ≠ "__name__" → mb x = bootBuiltins x) (hlim : s₁.heap.NoLimit) (hg : s₁.gens = #[])
    (ha : s₁.heap.get? a = some { cls := .type "list", data := .seq vs.toArray }) (hi : IntsAre vs ns) (hl : ns.length ≤ sizeLine) (hr : Room k callerA)
    (F : ∀ base : Heap, K.In base → base.Ns mainGlobals mg → FnOk P w K mg base CX k fa fd [x] sp) (hbind : ∀ (s : Shared) (u : Value), BindsTo s fd ⟨[u], []⟩ [(x, u)])
    (hsp : ∀ H : Hp, Only H → SqL K H a (ns.map V.int) → sp [.ref a] H (fun v _ => v = .bl true) fun _ _ _ => False)
    (hCX : ∀ H e s', CX [] H s₁ (fun _ _ _ => False) e s' → False) :
    codeAny (model P w) callerA (.call (.ref fa) ⟨[.ref a], []⟩) (fun r s' => r = .ok (.ret (.bool true)) ∧ OldK s₁.heap s'.heap ∧ s'.os = s₁.os ∧ AllBare s'.gens) s₁ := by
  have rv := vals_ints hi
  have lenV := hi.length
  -- from an abstract heap in which nothing but the script may be tracked
  have core : ∀ H : Hp, Only H → SqL K H a (ns.map V.int) → HOk P w H s₁.heap → (∀ b, H b ≠ none → b = a) → (H a ≠ none → K.lookup a = none) →
      codeAny (model P w) callerA (.call (.ref fa) ⟨[.ref a], []⟩) (fun r s' => r = .ok (.ret (.bool true)) ∧ OldK s₁.heap s'.heap ∧ s'.os = s₁.os ∧ AllBare s'.gens) s₁ := by
    intro H hO hS hok hA hK
    have base_of : ∀ {b : Addr} {o : Obj}, s₁.heap.get? b = some o → H b = none → (hidT s₁.heap H).get? b = some o := fun e n => hidT_get e n
    have noA : ∀ {b : Addr} {o : Obj} {es : Array DictEntry} {ep : Nat}, s₁.heap.get? b = some o → o.data = .dict es ep → H b = none := fun {b o es ep} e d => by
      cases q : H b with
      | none => rfl
      | some u =>
        have e' : b = a := hA b (by rw [q]; simp)
        subst e'
        rw [ha] at e; cases e
        have d' : Data.seq vs.toArray _ = Data.dict es ep := d
        cases d'
    have nsK : ∀ {b : Addr} {m : Str → Option Value}, s₁.heap.Ns b m → (hidT s₁.heap H).Ns b m := fun {b m} ⟨o, es, ep, e, d, r⟩ => ⟨o, es, ep, base_of e (noA e d), d, r⟩
    have hKb : K.In (hidT s₁.heap H) := fun b o e => base_of (KX b o e) (by
      cases q : H b with
      | none => rfl
      | some u =>
        have e' : b = a := hA b (by rw [q]; simp)
        subst e'
        rw [hK (by rw [q]; simp)] at e; cases e)
    have hM : Mod K mg (hidT s₁.heap H) := ⟨hKb, nsK hns, ⟨mb, nsK hb, hbb⟩, let ⟨mc, h1, h2⟩ := hlim; ⟨mc, nsK h1, h2⟩⟩
    have e0 : Env0 P w K mg (hidT s₁.heap H) callerA [] s₁ H := ⟨rfl, hM, fun b o e => of_hidT e, Nat.le_of_eq (hidT_size _ _), trivial, fun b hb => absurd (show b ∈ ([] : List Addr) from hb) (by simp), hok, .of_eq hg⟩
    refine codeAny_mono ((F _ hKb (nsK hns)).run callerA [] s₁ H ⟨[.ref a], []⟩ [.ref a] [.ref a] _ _ hr e0 (hbind s₁ (.ref a)) (.cons rfl .nil) (hsp H hO hS)) fun r s' h => ?_
    cases r with
    | error e => exact (hCX H e s' h).elim
    | ok fl =>
      cases fl with
      | next => exact False.elim h
      | brk => exact False.elim h
      | cont => exact False.elim h
      | ret u =>
        obtain ⟨v, H', os, bare, un, hok', r', q⟩ := h
        have q' : v = .bl true := q
        subst q'
        obtain rfl : u = Value.bool true := r'
        refine ⟨rfl, OldK.of_keep fun b o e => ?_, os, bare⟩
        cases q : H b with
        | none => exact un.keep b o e q (by intro z; exact absurd (show b ∈ ([] : List Addr) from z) (by simp)) (by simp)
        | some u =>
          rcases hO b with z | ⟨ob, xs, z⟩
          · rw [q] at z; cases z
          · have z2 := un.frzs b ob _ z
            obtain ⟨e1, _⟩ := hok b _ z
            obtain ⟨e2, _⟩ := hok' b _ z2
            rw [e] at e1; cases e1
            exact e2
  cases hk : K.lookup a with
  | some o =>
    -- the script is one of the module's own objects
    have e := KX a o hk
    rw [ha] at e
    cases e
    refine core (fun _ => none) (fun _ => .inl rfl) (.inr ⟨_, vs.toArray, _, hk, rfl, rfl, rfl, by rw [List.size_toArray, lenV]; exact hl, by simpa using rv⟩) (fun b u z => by have z' : (none : Option HO) = some u := z; cases z') (fun b z => absurd rfl z) fun z => absurd rfl z
  | none =>
    refine core (fun b => if b = a then some (.frz { cls := .type "list", data := .seq vs.toArray } (.lst (ns.map V.int))) else none) (fun b => ?_) (.inl (.inr ⟨{ cls := .type "list", data := .seq vs.toArray }, if_pos rfl⟩)) (fun b u z => ?_) (fun b z => ?_) fun _ => hk
    · by_cases hb : b = a
      · exact .inr ⟨_, _, if_pos hb⟩
      · exact .inl (if_neg hb)
    · by_cases hb : b = a
      · have z' := (if_pos hb).symm.trans z
        cases z'
        subst hb
        exact ⟨ha, by rw [List.length_map]; exact hl, vs, _, rv, ha⟩
      · have z' := (if_neg hb).symm.trans z
        cases z'
    · by_cases hb : b = a
      · exact hb
      · exact absurd (if_neg hb) z
end L2

namespace L2
open PySem PySem.Spec PyProof.Rows

abbrev KOf {K : PySem.W.Frag} {h : Heap} (_ : K.In h) : PySem.W.Frag := K

theorem walk_of {l : PySem.W.OpenLaw} {n k : Nat} {q : Program} {loose : List Str} {XP : (Str → Option Value) → Heap → Prop} {YP : World → Heap → Prop} {d : DefRec} {K : Params → PySem.W.Frag} {CX : World → CXT} {sp : World → Sp} {x : Str}
    (hn : l.most = some n) (hn2 : n ≤ sizeLine) (hdf : d.params.defaults = []) (hr : Room k callerA)
    (hY : ∀ (w : World) (h : Heap), YP w h → (K w.params).In h)
    (F : ∀ (w : World) (mg : Str → Option Value) (fa : Addr) (h : Heap), (K w.params).In h → h.Ns mainGlobals mg → mg d.name = some (.ref fa) →
      ∃ fd : FuncData, (∀ (s : Shared) (u : Value), BindsTo s fd ⟨[u], []⟩ [(x, u)]) ∧
        ∀ base : Heap, (K w.params).In base → base.Ns mainGlobals mg → FnOk l.prog w (K w.params) mg base (CX w) k fa fd [x] (sp w))
    (hsp : ∀ (w : World) (H : Hp) (a : Addr) (ns : List Int), ns.length ≤ n → Only H → SqL (K w.params) H a (ns.map V.int) → sp w [.ref a] H (fun v _ => v = .bl true) fun _ _ _ => False)
    (hCX : ∀ (w : World) (H : Hp) (s : Shared) (e : Value) (s' : Shared), CX w [] H s (fun _ _ _ => False) e s' → False) :
    PySem.W.WalkO q loose XP YP l.row.toRowW d [] (fun f vs => PySem.call f vs) := by
  refine Att.attach_call hn hdf fun w s₀ s₁ mg mb fa o pm cd doc a vs ns G Y ho hd hcd hmg hobj hints hlen hg => ?_
  have KX := hY w _ Y
  obtain ⟨fd, hb, hF⟩ := F w mg fa _ KX G.T.g hmg
  exact law_call KX G.T.g G.T.b G.T.builtins G.T.nolimit hg hobj hints (Nat.le_trans hlen hn2) hr hF hb (fun H hO hS => hsp w H a ns hlen hO hS) fun H e s' => hCX w H s₁ e s'
end L2

/- THE LAST THEOREM (shape; LID, My.* are yours):
   My.Adr: a structure of the addresses that your layer names (classes, functions); My.Txt K t: a structure (Prop) of the equations over K;
   My.txt_mk : {K} {implicit addresses ..} (e1 : nsIn K mainGlobals "law" = some (some (.ref f))) (e2 : K.lookup f = some ⟨oc, od, .func (fnOf "law" "law" params body scope dV kV doc pm an cdv ct), sl⟩) (e3 : codeIn K cdv "law" = true) .. : ∃ t, My.Txt K t

set_option maxRecDepth 100000 in
set_option maxHeartbeats 0 in
theorem PySem.Challenge.cw_LID_holds : PySem.Challenge.rw_LID.Holds := by
  w_on; o_law; k_head; (case hw => w_witness2)
  k_fill
  refine L2.walk_of (l := PySem.Challenge.rw_LID) (n := 63) (k := 40) (x := "script") (CX := fun w => ..) (sp := fun _ => My.sp_law) rfl (by decide) rfl ⟨rfl, by decide, by decide⟩ (fun w h Y => PySem.W.kIn_of Y) ?F ?S ?C
  case F =>
    intro w mg fa h KX G hmg
    have T : ∃ t, My.Txt (L2.KOf KX) t := by
      dsimp only [L2.KOf]                          -- K must stand as «<heap const> w.params» for k_is
      refine' My.txt_mk ?e1 ?e2 ?e3 ..
      (case e1 => PySem.W.k_is)                    -- in the order: a name -> its address -> its object -> its parts
      (case e2 => PySem.W.k_is)
      ..
    obtain ⟨t, T⟩ := T
    have e0 := hmg.symm.trans (PySem.W.mg_of KX G T.law)
    cases e0                                       -- fa is the law's own address
    exact ⟨_, fun s u => .of_eq rfl, fun base kb nb => My.law_fn T kb nb⟩     -- if «.of_eq rfl» comes too early: refine' ⟨_, ?b, fun base kb nb => My.law_fn T kb nb⟩; exact fun s u => .of_eq rfl
  case S => exact fun w H a ns hl hO hS => ..
  case C => exact ..
(the tactic k_is has no namespace: write k_is) -/

namespace L2
open PySem PySem.Spec PyProof.Rows

def defArgs (s : Stmt) : Arguments := match s with
  | .FunctionDef _ a _ _ _ _ _ _ _ _ => a
  | _ => { posonlyargs := [], args := [], vararg := none, kwonlyargs := [], kw_defaults := [], kwarg := none, defaults := [] }
def defBody (s : Stmt) : List Stmt := match s with
  | .FunctionDef _ _ b _ _ _ _ _ _ _ => b
  | _ => []
def defScope (s : Stmt) : Scope := match s with
  | .FunctionDef _ _ _ _ _ _ sc _ _ _ => sc
  | _ => { kind := .function, names := [], isGenerator := false, isCoroutine := false }

abbrev CX0 : CXT := fun _ _ _ _ _ _ => False
abbrev E0 : XK := fun _ _ _ => False
theorem pass0 {X : Cx} : Passes CX0 X E0 := fun _ _ _ _ _ _ _ h => h.elim

structure Fun (K : PySem.W.Frag) (x qual : Str) (st : Stmt) (f : Addr) (fd : FuncData) : Prop where
  ex : ∃ (oc : Value) (od : Option Addr) (kV doc pm : Value) (an : Option Addr) (cdv ct : Value) (osl : Array (Option Value)),
    fd = PySem.W.fnOf x qual (defArgs st) (defBody st) (defScope st) .none kV doc pm an cdv ct ∧ K.lookup f = some ⟨oc, od, .func fd, osl⟩ ∧ PySem.W.codeIn K cdv qual = true
  kp : PySem.W.keepIn K (.ref f) = true
section
variable {P : Program} {w : World} {K : PySem.W.Frag} {mg : Str → Option Value} {base : Heap}
theorem Fun.ok {x qual : Str} {st : Stmt} {f : Addr} {fd : FuncData} {N ps : List Str} {k : Nat} {sp : Sp} (F : Fun K x qual st f fd) (S : FnScope N ps (defScope st)) (len : ∀ vs H Q E, sp vs H Q E → vs.length = ps.length)
    (hbody : ∀ (cdv : Value) (A : Around) (outer : List Env) (s : Shared) (H : Hp) (vs : List V) (Q : VK) (E : XK), Room k (A.deeper (envOfC qual (defScope st) s.heap.objs.size f cdv)) → sp vs H Q E →
      ∃ t, PSs (cxOf CX0 P w K mg base N qual (defScope st) f cdv A outer s H E).nox (defBody st) t ∧ t { nx := fun _ H' => Q .non H', rt := Q } (start N vs) H) : FnOk P w K mg base CX0 (k + 1) f fd ps sp := by
  obtain ⟨oc, od, kV, doc, pm, an, cdv, ct, osl, rfl, lk, hcd⟩ := F.ex
  refine fn_of lk hcd S len fun A outer s H vs Q E hr hsp => ?_
  obtain ⟨t, h, q⟩ := hbody cdv A outer s H vs Q E hr hsp
  exact ⟨t, h.nox, q⟩
theorem Fun.binds {x qual : Str} {st : Stmt} {f : Addr} {fd : FuncData} {ps : List Str} (F : Fun K x qual st f fd)
    (h : ∀ (kV doc pm : Value) (an : Option Addr) (cdv ct : Value) (us : List Value), us.length = ps.length → bindArgs (PySem.W.fnOf x qual (defArgs st) (defBody st) (defScope st) .none kV doc pm an cdv ct) ⟨us, []⟩ = pure (ps.zip us)) : Binds K fd ps [] := by
  obtain ⟨oc, od, kV, doc, pm, an, cdv, ct, osl, rfl, lk, hcd⟩ := F.ex
  exact .all (h kV doc pm an cdv ct)
theorem fun_mk {x qual : Str} {st : Stmt} {f : Addr} {oc : Value} {od an : Option Addr} {osl : Array (Option Value)} {kV doc pm cdv ct : Value} (l : K.lookup f = some ⟨oc, od, .func (PySem.W.fnOf x qual (defArgs st) (defBody st) (defScope st) .none kV doc pm an cdv ct), osl⟩)
    (c : PySem.W.codeIn K cdv qual = true) (k : PySem.W.keepIn K (.ref f) = true) : Fun K x qual st f (PySem.W.fnOf x qual (defArgs st) (defBody st) (defScope st) .none kV doc pm an cdv ct) := ⟨⟨oc, od, kV, doc, pm, an, cdv, ct, osl, rfl, l, c⟩, k⟩
end
theorem small1000 {n : Nat} (h : n ≤ 1000) : n < sizeLine := Nat.lt_of_le_of_lt h (by decide)

section
variable {X : Cx}
end

theorem ite2 {c A B : Prop} [Decidable c] (h1 : c → A) (h2 : ¬ c → B) : if c then A else B := by
  by_cases h : c
  · rw [if_pos h]
    exact h1 h
  · rw [if_neg h]
    exact h2 h
def Same (H H' : Hp) : Prop := ∀ b o, H b = some o → H' b = some o
theorem Same.refl (H : Hp) : Same H H := fun _ _ h => h
theorem Same.trans {H H1 H2 : Hp} (a : Same H H1) (b : Same H1 H2) : Same H H2 := fun c o h => b c o (a c o h)
theorem Same.free {H H' : Hp} (e : Same H H') {l : Addr} (h : H' l = Option.none) : H l = Option.none := by
  cases q : H l with
  | none => rfl
  | some o =>
    rw [e l o q] at h
    cases h
theorem Same.seq {K : PySem.W.Frag} {H H' : Hp} {a : Addr} {xs : List V} (e : Same H H') (h : SqL K H a xs) : SqL K H' a xs := by
  rcases h with (h | ⟨o, h⟩) | h
  · exact .inl (.inl (e _ _ h))
  · exact .inl (.inr ⟨o, e _ _ h⟩)
  · exact .inr h

end L2

namespace L2
open PySem PySem.Spec PyProof.Rows

def tbO (T : Addr) (h : Heap) : Prop := ∃ o ts, h.get? T = some o ∧ o.data = .fields ts ∧ ts[3]? = some .none
def exO (a C dx : Addr) (h : Heap) : Prop := ∃ o vs, h.get? a = some o ∧ o.cls = .ref C ∧ o.dict = some dx ∧ o.data = .fields vs ∧ dx ≠ a
theorem tbO_stay {T : Addr} (h1 h2 : Heap) (x : tbO T h1) (k : ∀ o, h1.get? T = some o → h2.get? T = some o) : tbO T h2 :=
  let ⟨o, ts, e, r⟩ := x; ⟨o, ts, k o e, r⟩
def Flight (h : Heap) (H : Hp) (a : Addr) : Prop := ∃ o vs, h.get? a = some o ∧ o.data = .fields vs ∧ (vs[1]? = some .none ∨ ∃ T, vs[1]? = some (.ref T) ∧ T ≠ a ∧ H T = some (.ext (tbO T)))

section
variable {M : Model} {A : Around} {E : Value → Shared → Prop} {s : Shared} {base : Heap} {env : Env} {outer : List Env} {L e : Addr}

structure Flown (fs : List Addr) (e : Addr) (old : Option Addr) (oe : Obj) (h h' : Heap) : Prop where
  keep : ∀ b o, b ∉ fs → b ≠ e → old ≠ some b → h.get? b = some o → h'.get? b = some o
  slot : ∀ b o, b ≠ e → old ≠ some b → h.get? b = some o → ∃ sl, h'.get? b = some { o with slots := sl }
  exc : ∃ vs T, h'.get? e = some { oe with data := .fields vs } ∧ vs[1]? = some (.ref T) ∧ T ≠ e ∧ h.objs.size ≤ T ∧ tbO T h'
  old : ∀ b, old = some b → tbO b h'

theorem fly_new {oe : Obj} {vs : Array Value} {head : Value} {hadNext : Bool} {Q : Unit → Shared → Prop} (fr : A.frames = some (env :: outer)) (ff : s.heap.FunFrames base (env :: outer)) (ef : env.frame = some L)
    (oe_at : s.heap.get? e = some oe) (od : oe.data = .fields vs) (z : 1 < vs.size)
    (q : ∀ h', Flown (frs (env :: outer)) e none oe s.heap h' → Q () { s with heap := h' }) :
    wpAny M A (frameOf env >>= fun a => entryPlaceOf L hadNext >>= fun pl => EntryCells.newEntry head a .none (rawInt L) .none pl >>= fun b => setField (.ref e) 1 b)
      (fun _ s' => wpAny M A (setFlight (.ref e) none) Q E s') E s := by
  have ne : e ∉ frs (env :: outer) := fun hm => by
    obtain ⟨_, o, ho, hnf⟩ := ff.mem hm
    rw [oe_at] at ho; cases ho; exact hnf vs od
  refine wpAny_bind (wpAny_frameOf_fun fr ff ef fun h₁ sl₁ => wpAny_bind (wpAny_entryPlaceOf fun pl hpl => ?_))
  unfold EntryCells.newEntry newFields
  refine wpAny_bind (wpAny_newObj_type ?_ (hpl.sizeOk5 _ _ _ _ _))
  generalize hob : ({ cls := .type "traceback", dict := none, data := .fields ([head, .ref L, .none, rawInt L, .none] ++ (if pl.isEmpty then List.replicate 6 Value.none else pl)).toArray } : Obj) = ob
  have obd : ∃ ts : Array Value, ob.data = .fields ts ∧ 3 < ts.size := ⟨_, by rw [← hob], by simp only [List.size_toArray, List.length_append, List.length_cons, List.length_nil]; omega⟩
  obtain ⟨ts, obd, tz⟩ := obd
  have e₁ : h₁.get? e = some oe := (sl₁.2.1 e ne).trans oe_at
  have e₂ : (h₁.push ob).get? e = some oe := Heap.get?_push_of_some ob e₁
  refine wpAny_setField e₂ od z ?_
  have Te : h₁.objs.size ≠ e := Nat.ne_of_gt (Heap.lt_size e₁)
  have d₃ := Obj.data_mapFields od (·.setIfInBounds 1 (Value.ref h₁.objs.size))
  have e₃ := Heap.get?_update_self (Obj.mapFields (·.setIfInBounds 1 (Value.ref h₁.objs.size))) e₂ (Obj.isFreed_of_fields d₃)
  have t₂ : (h₁.push ob).get? h₁.objs.size = some ob := Heap.get?_push_size h₁ (Obj.isFreed_of_fields obd)
  have t₃ := (Heap.get?_update_other (h₁.push ob) (Obj.mapFields (·.setIfInBounds 1 (Value.ref h₁.objs.size))) (Ne.symm Te)).trans t₂
  unfold setFlight
  refine wpAny_bind (wpAny_field e₃ d₃ (x := .ref h₁.objs.size) (by simp [z]) ?_)
  rw [if_pos (by simp)]
  refine wpAny_setField t₃ obd tz (q _ ?_)
  have kk : ∀ b o, b ≠ e → h₁.get? b = some o → (((h₁.push ob).update e (Obj.mapFields (·.setIfInBounds 1 (Value.ref h₁.objs.size)))).update h₁.objs.size (Obj.mapFields (·.setIfInBounds 3 ((none : Option Addr).elim Value.none fun f => rawInt f)))).get? b = some o := by
    intro b o nb hb
    rw [Heap.get?_update_other _ _ (Nat.ne_of_gt (Heap.lt_size hb)), Heap.get?_update_other _ _ (Ne.symm nb)]
    exact Heap.get?_push_of_some ob hb
  refine ⟨fun b o nf nb _ hb => kk b o nb ((sl₁.2.1 b nf).trans hb), fun b o nb _ hb => ?_, ⟨vs.setIfInBounds 1 (Value.ref h₁.objs.size), h₁.objs.size, ?_, by simp [z], Te, by rw [sl₁.1]; exact Nat.le_refl _, ?_⟩, fun b z => by cases z⟩
  · obtain ⟨sl, hs⟩ := sl₁.2.2 b o hb
    exact ⟨sl, kk b _ nb hs⟩
  · rw [Heap.get?_update_other _ _ Te, e₃]
    obtain ⟨c, d, dt, sl⟩ := oe
    cases od
    rfl
  · exact ⟨_, _, Heap.get?_update_self _ t₃ (Obj.isFreed_of_fields (Obj.data_mapFields obd _)), Obj.data_mapFields obd _, by simp [tz]⟩

theorem fly {oe : Obj} {vs : Array Value} {old : Option Addr} {Q : Unit → Shared → Prop} (fr : A.frames = some (env :: outer)) (ff : s.heap.FunFrames base (env :: outer)) (ef : env.frame = some L)
    (oe_at : s.heap.get? e = some oe) (od : oe.data = .fields vs) (ht : vs[1]? = some (old.elim .none .ref)) (ho : ∀ T, old = some T → T ≠ e ∧ tbO T s.heap)
    (q : ∀ h', Flown (frs (env :: outer)) e old oe s.heap h' → Q () { s with heap := h' }) :
    wpAny M A (noteFrame (.ref e) env) (fun _ s' => wpAny M A (setFlight (.ref e) none) Q E s') E s := by
  have z : 1 < vs.size := (Array.getElem?_eq_some_iff.mp ht).1
  unfold noteFrame
  simp only [ef]
  refine wpAny_bind (wpAny_field oe_at od ht ?_)
  cases old with
  | none =>
    rw [if_neg (by simp)]
    exact fly_new fr ff ef oe_at od z q
  | some T =>
    obtain ⟨Te, oT, ts, hT, dT, h3⟩ := ho T rfl
    rw [if_pos (by simp)]
    refine wpAny_bind (wpAny_field hT dT h3 ?_)
    rw [if_neg (by simp [rawInt])]
    have tz : 3 < ts.size := (Array.getElem?_eq_some_iff.mp h3).1
    refine wpAny_bind (wpAny_setField hT dT tz ?_)
    have oth : ∀ b, b ≠ T → (s.heap.update T (Obj.mapFields (·.setIfInBounds 3 Value.none))).get? b = s.heap.get? b := fun b hb => Heap.get?_update_other _ _ (Ne.symm hb)
    have dT' := Obj.data_mapFields dT (·.setIfInBounds 3 Value.none)
    have hT' := Heap.get?_update_self (Obj.mapFields (·.setIfInBounds 3 Value.none)) hT (Obj.isFreed_of_fields dT')
    have nT : T ∉ frs (env :: outer) := fun hm => by
      obtain ⟨_, o, ho, hnf⟩ := ff.mem hm
      rw [hT] at ho; cases ho; exact hnf ts dT
    refine fly_new (s := { s with heap := s.heap.update T (Obj.mapFields (·.setIfInBounds 3 Value.none)) }) fr (ff.of_keeps fun b o hb hnf => ⟨o, (oth b fun w => by subst w; rw [hT] at hb; cases hb; exact hnf ts dT).trans hb, rfl⟩) ef ((oth e (Ne.symm Te)).trans oe_at) od z fun h' F => q h' ?_
    obtain ⟨vs', T', x1, x2, x3, x4, x5⟩ := F.exc
    refine ⟨fun b o nf nb no hb => F.keep b o nf nb (by simp) ((oth b fun w => no (by rw [w])).trans hb), fun b o nb no hb => F.slot b o nb (by simp) ((oth b fun w => no (by rw [w])).trans hb), ⟨vs', T', x1, x2, x3, ?_, x5⟩, fun b w => ?_⟩
    · simpa [Heap.size_update] using x4
    · cases w
      exact ⟨_, _, F.keep T _ nT Te (by simp) hT', dT', by simp [tz]⟩
end

section
variable {P : Program} {w : World} {H : Hp} {h h' : Heap} {fs : List Addr} {e : Addr} {oe : Obj} {vs : Array Value} {old : Option Addr} {φ : Heap → Prop}
theorem Flown.held (F : Flown fs e old oe h h') (oe_at : h.get? e = some oe) (hok : HOk P w H h) (ff : ∀ b ∈ fs, H b = none) (He : H e = some (.ext φ)) (hφ : ∀ h1 h2 : Heap, (∀ o vs, h1.get? e = some o → h2.get? e = some { o with data := .fields vs } → φ h1 → φ h2))
    (ho : ∀ T, old = some T → H T = some (.ext (tbO T))) :
    ∃ H', Same H H' ∧ Un fs [] H H' h h' ∧ HOk P w H' h' ∧ Flight h' H' e := by
  obtain ⟨vs', T, x1, x2, x3, x4, x5⟩ := F.exc
  have nT : H T = none := hok.fresh x4
  have eT : ∀ b, old = some b → b ≠ T := fun b w z => by
    have := ho b w
    rw [z, nT] at this; cases this
  have hs : Same H (upd H T (.ext (tbO T))) := fun b o q => by rw [upd_ne (ne_of_none q nT)]; exact q
  have tr : ∀ b o, H b = none → h.get? b = some o → b ≠ e ∧ old ≠ some b := fun b o n q => ⟨fun z => (by rw [z, He] at n; cases n), fun z => (by rw [ho b z] at n; cases n)⟩
  refine ⟨upd H T (.ext (tbO T)), hs, ⟨fun b o q n nf _ => F.keep b o nf (tr b o n q).1 (tr b o n q).2 q, fun b o q n _ _ => F.slot b o (tr b o n q).1 (tr b o n q).2 q, fun b o q n _ => ?_, fun b o q _ => ?_, fun b xs q => hs b _ q, fun b o u q => hs b _ q, fun b ps q => ⟨#[], by rw [hs b _ q]; simp⟩⟩, fun b u q => ?_, ⟨_, vs', x1, rfl, .inr ⟨T, x2, x3, upd_same⟩⟩⟩
  · rw [upd_ne]
    · exact n
    · intro z; rw [z, Heap.get?_none_of_le x4] at q; cases q
  · by_cases z : b = e
    · exact ⟨_, by rw [z]; exact x1⟩
    · by_cases z' : old = some b
      · obtain ⟨o', _, k, _⟩ := F.old b z'; exact ⟨o', k⟩
      · obtain ⟨sl, k⟩ := F.slot b o z z' q; exact ⟨_, k⟩
  · by_cases z : b = T
    · subst z
      rw [upd_same] at q; cases q
      exact ⟨x5, let ⟨o, _, k, _⟩ := x5; ⟨o, k⟩, tbO_stay⟩
    · rw [upd_ne z] at q
      by_cases z1 : b = e
      · subst z1
        rw [He] at q; cases q
        obtain ⟨p1, _, p3⟩ := hok b _ He
        exact ⟨hφ h h' oe vs' oe_at x1 p1, ⟨_, x1⟩, p3⟩
      · by_cases z2 : old = some b
        · rw [ho b z2] at q; cases q
          have k := F.old b z2
          exact ⟨k, let ⟨o, _, k, _⟩ := k; ⟨o, k⟩, tbO_stay⟩
        · refine (hok b u q).stay (fun c v hc r => ?_) (fun c r => hs c _ r) fun c xs r => hs c _ r
          have nf : c ∉ fs := fun m => by
            have := ff c m
            rcases hc with rfl | hc
            · rw [q] at this; cases this
            · rw [hc] at this; cases this
          refine F.keep c v nf ?_ ?_ r
          · rintro rfl
            rcases hc with rfl | hc
            · exact z1 rfl
            · rw [He] at hc; cases hc
          · intro m
            rcases hc with rfl | hc
            · exact z2 m
            · rw [ho c m] at hc; cases hc
end
theorem exO_fields {a C dx : Addr} (h1 h2 : Heap) (o : Obj) (vs : Array Value) (e1 : h1.get? a = some o) (e2 : h2.get? a = some { o with data := .fields vs }) (x : exO a C dx h1) : exO a C dx h2 := by
  obtain ⟨o', vs', q, r1, r2, r3, r4⟩ := x
  rw [e1] at q; cases q
  exact ⟨_, vs, e2, r1, r2, rfl, r4⟩
end L2

namespace L2
open PySem PySem.Spec PyProof.Rows

def Exc (H : Hp) (a : Addr) : Prop := ∃ C dx, H a = some (.ext (exO a C dx))
theorem Exc.same {H H' : Hp} {a : Addr} (x : Exc H a) (s : Same H H') : Exc H' a := let ⟨C, dx, e⟩ := x; ⟨C, dx, s _ _ e⟩

def CXe (P : Program) (w : World) : CXT := fun outer H s E e s' =>
  ∃ a H', e = .ref a ∧ s'.os = s.os ∧ AllBare s'.gens ∧ Un (frs outer) [] H H' s.heap s'.heap ∧ HOk P w H' s'.heap ∧ Flight s'.heap H' a ∧ Exc H' a ∧ E (.ref a) none H'
section
variable {X : Cx} {pins : List (Addr × Obj)} {σ : St} {H : Hp} {s : Shared} {a : Addr} {E : Value → Shared → Prop} {Q : Unit → Shared → Prop}
theorem flies (I : Inv X pins σ H s) (hst : X.stack = X.env :: X.outer) (hfr : X.env.frame = some X.env.locals) (fl : Flight s.heap H a) (ex : Exc H a)
    (q : ∀ H' h', Same H H' → Un (frs X.stack) [] H H' s.heap h' → HOk X.prog X.w H' h' → Flight h' H' a → Q () { s with heap := h' }) :
    wpAny (model X.prog X.w) X.A (noteFrame (.ref a) X.env) (fun _ s' => wpAny (model X.prog X.w) X.A (setFlight (.ref a) none) Q E s') E s := by
  obtain ⟨o, vs, e1, e2, e3⟩ := fl
  obtain ⟨C, dx, He⟩ := ex
  have ff := I.stack
  have fr := I.ok.frames
  rw [hst] at ff fr
  have key : ∀ old : Option Addr, vs[1]? = some (old.elim .none .ref) → (∀ T, old = some T → T ≠ a ∧ H T = some (.ext (tbO T))) →
      wpAny (model X.prog X.w) X.A (noteFrame (.ref a) X.env) (fun _ s' => wpAny (model X.prog X.w) X.A (setFlight (.ref a) none) Q E s') E s := by
    intro old h1 h2
    refine fly fr ff hfr e1 e2 h1 (fun T z => ⟨(h2 T z).1, (I.hok T _ (h2 T z).2).1⟩) fun h' F => ?_
    obtain ⟨H', y1, y2, y3, y4⟩ := F.held e1 I.hok (fun b hb => I.stkFree b (by rw [hst]; exact hb)) He (fun h1 h2 o vs x1 x2 x3 => exO_fields h1 h2 o vs x1 x2 x3) fun T z => (h2 T z).2
    exact q H' h' y1 (by rw [hst]; exact y2) y3 y4
  rcases e3 with e3 | ⟨T, e3, e4, e5⟩
  · exact key none e3 fun _ z => by cases z
  · exact key (some T) e3 fun _ z => by cases z; exact ⟨e4, e5⟩
theorem lands (I : Inv X pins σ H s) (hst : X.stack = X.env :: X.outer) (hfr : X.env.frame = some X.env.locals) (fl : Flight s.heap H a) (ex : Exc H a)
    (q : ∀ H' s', Same H H' → Inv X pins σ H' s' → Flight s'.heap H' a → Q () s') :
    wpAny (model X.prog X.w) X.A (noteFrame (.ref a) X.env) (fun _ s' => wpAny (model X.prog X.w) X.A (setFlight (.ref a) none) Q E s') E s :=
  flies I hst hfr fl ex fun H' h' y1 y2 y3 y4 => q H' _ y1 (I.call (t' := s.toks) (g' := s.gens) (d' := s.drawn) (ch := []) y2 y3 I.bare fun b z => absurd z (by simp)) y4
theorem leaves (I : Inv X pins σ H s) (hst : X.stack = X.env :: X.outer) (hfr : X.env.frame = some X.env.locals) (hx : X.ex = []) (fl : Flight s.heap H a) (ex : Exc H a)
    (q : ∀ H' s', s'.os = X.s₀.os → AllBare s'.gens → Same H H' → Un (frs X.outer) [] X.H₀ H' X.s₀.heap s'.heap → HOk X.prog X.w H' s'.heap → Flight s'.heap H' a → Exc H' a → Q () s') :
    wpAny (model X.prog X.w) X.A (leaving X.env (.ref a)) Q E s := by
  refine wpAny_bind (flies I hst hfr fl ex fun H' h' y1 y2 y3 y4 => q H' _ I.os I.bare y1 ?_ y3 y4 (ex.same y1))
  have b := I.base
  rw [hx] at b
  have nl : ∀ c o, X.s₀.heap.get? c = some o → c ≠ X.env.locals := fun c o e => Nat.ne_of_lt (Nat.lt_of_lt_of_le (Heap.lt_size e) I.ok.above)
  have nf : ∀ c o, X.s₀.heap.get? c = some o → c ∉ frs X.outer → c ∉ frs X.stack := fun c o e n m => (List.mem_cons.mp (I.stkSub c m)).elim (nl c o e) n
  refine ⟨fun c o e n m _ => y2.keep c o (b.keep c o e n m (by simp)) (b.free c o e n (by simp)) (nf c o e m) (by simp), fun c o e n m _ => ?_, fun c o e n _ => ?_, fun c o e _ => ?_, fun c xs e => y2.tups c xs (b.tups c xs e), fun c o u e => y2.frzs c o u (b.frzs c o u e), fun c ps e => ?_⟩
  · obtain ⟨sl, e1⟩ := b.slot c o e n m (by simp)
    obtain ⟨sl', e2⟩ := y2.any e1 (b.free c o e n (by simp)) (by simp)
    exact ⟨sl', e2⟩
  · obtain ⟨o', e1⟩ := b.there c o e (by simp)
    exact y2.free c o' e1 (b.free c o e n (by simp)) (by simp)
  · obtain ⟨o', e1⟩ := b.there c o e (by simp)
    exact y2.there c o' e1 (by simp)
  · obtain ⟨m1, e1⟩ := b.tbls c ps e
    obtain ⟨m2, e2⟩ := y2.tbls c _ e1
    exact ⟨m1 ++ m2, by rw [e2, Array.append_assoc]⟩
end

section
variable {X : Cx} {k : Nat} {f : Addr} {fd : FuncData} {ps : List Str} {sp : Sp} {x : Str} {p pos : Pos} {e : Expr} {es : List Expr} {t : TA}
theorem FnOk.calm {P : Program} {w : World} {K : PySem.W.Frag} {mg : Str → Option Value} {base : Heap} {k : Nat} {f : Addr} {fd : FuncData} {ps : List Str} {sp sp' : Sp} (F : FnOk P w K mg base (CXe P w) k f fd ps sp)
    (h : ∀ vs H Q E, sp' vs H Q E → sp vs H Q E0) : FnOk P w K mg base CX0 k f fd ps sp' :=
  ⟨fun vs H Q E q => F.len vs H Q E0 (h _ _ _ _ q), fun A outer s H args us vs Q E hr he hb hv hs => codeAny_mono (F.run A outer s H args us vs Q E0 hr he hb hv (h _ _ _ _ hs)) fun r s' hq => by
    cases r with
    | error e => obtain ⟨_, _, _, _, _, _, _, _, _, z⟩ := hq; exact z.elim
    | ok fl => cases fl <;> exact hq⟩
end
end L2

namespace L2
open PySem PySem.Spec PyProof.Rows

abbrev bmV : List Value := [.type "ValueError", .type "Exception", .type "BaseException", .type "object"]
def strK (es : Array DictEntry) : Bool := es.toList.all fun e => match e.key with | .str _ _ => true | _ => false
theorem strK_of {es : Array DictEntry} (h : strK es = true) : StrKeys es := fun e he => by
  have := List.all_eq_true.mp h e (Array.mem_toList_iff.mpr he)
  split at this
  · rename_i n t q; exact ⟨n, t, q⟩
  · cases this
structure XC (K : PySem.W.Frag) (C F : Addr) : Prop where
  obj : ∃ nm q N bs sn sub ab col dd k0 k1 k2 k3 k5, K.lookup C = some (excClassObj nm q C N bs (.ref F :: bmV) true sn sub ab col dd k0 k1 k2 k3 k5 "ValueError.__new__")
  tail : ∃ c0 dd cd sl oc od es ep sl', K.lookup F = some ⟨c0, dd, .cls cd, sl⟩ ∧ K.lookup cd.ns = some ⟨oc, od, .dict es ep, sl'⟩ ∧ strK es = true ∧ nsFind es "__init__" = none
  sa : PySem.W.findIn K (.ref C) "__setattr__" = some (some (.builtin "object.__setattr__"))
  ga : PySem.W.findIn K (.ref C) "__getattribute__" = some (some (.builtin "BaseException.__getattribute__"))
  gh : PySem.W.findIn K (.ref C) "__getattr__" = some none
  cl : PySem.W.findIn K (.ref C) "__class__" = some (some (.builtin "object.__class__"))
  gg : PySem.W.specialIn K (.builtin "object.__class__") "__get__" = some (some (.builtin "getset_descriptor.__get__"))
  gt : PySem.W.takesIn K (.builtin "object.__class__") = some true
theorem XC.own {K : PySem.W.Frag} {C F : Addr} {h : Heap} (c : XC K C F) (X : K.In h) : OwnTail h bmV (.ref F :: bmV) := by
  obtain ⟨c0, dd, cd, sl, oc, od, es, ep, sl', h1, h2, h3, h4⟩ := c.tail
  exact .own (X _ _ h1) ⟨_, es, ep, X _ _ h2, rfl, strK_of h3, fun _ => rfl⟩ h4 .base

section
variable {prog : Program} {w : World} {A : Around} {E : Value → Shared → Prop} {s : Shared} {K : PySem.W.Frag} {C U fI : Addr} {rest : List Value}
end
end L2

namespace L2
open PySem PySem.Spec PyProof.Rows PySem.W PySem.Builtin PySem.Builtin.ObjectAttr

section
variable {prog : Program} {w : World} {A : Around} {E : Value → Shared → Prop} {s : Shared} {K : PySem.W.Frag} {C U x : Addr} {name : Str} {v : Value}
theorem XC.cls (c : XC K C U) : ∃ cd, clsIn K C = some cd ∧ cd.mro = .ref C :: .ref U :: bmV ∧ cd.hasDict = true := by
  obtain ⟨nm, q, N, bs, sn, sub, ab, col, dd, k0, k1, k2, k3, k5, lk⟩ := c.obj
  exact ⟨_, by unfold clsIn; rw [lk], rfl, rfl⟩
theorem XC.sub (c : XC K C U) (b : Value) : mroIn K C b = some ((Value.ref C :: .ref U :: bmV).contains b) := by
  obtain ⟨cd, h1, h2, _⟩ := c.cls
  unfold mroIn
  rw [h1, Option.bind_some, h2]
  rfl
end
end L2

namespace L2
open PySem PySem.Spec PyProof.Rows PySem.W PySem.Builtin PySem.Builtin.ObjectAttr

section
variable {prog : Program} {w : World} {A : Around} {E : Value → Shared → Prop} {s : Shared} {K : PySem.W.Frag} {C U x : Addr} {name : Str} {v : Value} {ox : Obj} {od : Option Obj}
end
end L2

namespace L2
open PySem PySem.Spec PyProof.Rows PySem.SeqAt

inductive Dt where
  | non | bl (b : Bool) | int (i : Int) | str (x : Str) | tup (ds : List Dt) | lst (ds : List Dt) | fn (a : Addr)
  /-- an exception: its class's name, its fields -/
  | exc (c : Str) (ns : List Str) (ds : List Dt)
  /-- an instance: its class's name, its fields -/
  | obj (c : Str) (ns : List Str) (ds : List Dt)

def LsD (K : PySem.W.Frag) (H : Hp) (a : Addr) (xs : List V) : Prop := H a = some (.lst xs) ∨ (SqL K H a xs ∧ ∀ x ∈ xs, ∃ i : Int, x = .int i)
theorem LsD.sq {K : PySem.W.Frag} {H : Hp} {a : Addr} {xs : List V} (h : LsD K H a xs) : SqL K H a xs := by
  rcases h with h | ⟨h, _⟩
  · exact SqL.of h
  · exact h
theorem LsD.mono {K : PySem.W.Frag} {H H' : Hp} {a : Addr} {xs : List V} (s : Same H H') (h : LsD K H a xs) : LsD K H' a xs := by
  rcases h with h | ⟨h, q⟩
  · exact .inl (s _ _ h)
  · exact .inr ⟨s.seq h, q⟩
mutual
def Rp (K : PySem.W.Frag) (H : Hp) : Dt → V → Prop
  | .non, v => v = .non
  | .bl b, v => v = .bl b
  | .int i, v => v = .int i
  | .str x, v => v = .str x
  | .fn a, v => v = .ref a
  | .exc c ns ds, v => ∃ a C U dx vs, v = .ref a ∧ PySem.W.nsIn K mainGlobals c = some (some (.ref C)) ∧ XC K C U ∧ H a = some (.ext (exO a C dx)) ∧ H dx = some (.xd (ns.zip vs)) ∧ ns.length = ds.length ∧ RpL K H ds vs
  | .obj c ns ds, v => ∃ a C dx vs, v = .ref a ∧ PySem.W.nsIn K mainGlobals c = some (some (.ref C)) ∧ Cls K C ∧ H a = some (.ins C dx (ns.zip vs)) ∧ ns.length = ds.length ∧ RpL K H ds vs
  | .tup ds, v => ∃ a xs, v = .ref a ∧ SqT K H a xs ∧ RpL K H ds xs
  | .lst ds, v => ∃ a xs, v = .ref a ∧ LsD K H a xs ∧ RpL K H ds xs
def RpL (K : PySem.W.Frag) (H : Hp) : List Dt → List V → Prop
  | [], xs => xs = []
  | d :: ds, xs => ∃ v r, xs = v :: r ∧ Rp K H d v ∧ RpL K H ds r
end

theorem Same.seqT {K : PySem.W.Frag} {H H' : Hp} {a : Addr} {xs : List V} (e : Same H H') (h : SqT K H a xs) : SqT K H' a xs := by
  rcases h with (h | ⟨o, h⟩) | h
  · exact .inl (.inl (e _ _ h))
  · exact .inl (.inr ⟨o, e _ _ h⟩)
  · exact .inr h

mutual
theorem Rp.mono {K : PySem.W.Frag} {H H' : Hp} (s : Same H H') : ∀ {d : Dt} {v : V}, Rp K H d v → Rp K H' d v
  | .non, _, h => by unfold Rp at h ⊢; exact h
  | .bl _, _, h => by unfold Rp at h ⊢; exact h
  | .int _, _, h => by unfold Rp at h ⊢; exact h
  | .str _, _, h => by unfold Rp at h ⊢; exact h
  | .fn _, _, h => by unfold Rp at h ⊢; exact h
  | .exc _ _ _, _, h => by
    unfold Rp at h ⊢
    obtain ⟨a, C, U, dx, vs, e, q, x, h1, h2, l, r⟩ := h
    exact ⟨a, C, U, dx, vs, e, q, x, s _ _ h1, s _ _ h2, l, RpL.mono s r⟩
  | .obj _ _ _, _, h => by
    unfold Rp at h ⊢
    obtain ⟨a, C, dx, vs, e, q, x, h1, l, r⟩ := h
    exact ⟨a, C, dx, vs, e, q, x, s _ _ h1, l, RpL.mono s r⟩
  | .tup ds, _, h => by
    unfold Rp at h ⊢
    obtain ⟨a, xs, e, q, r⟩ := h
    exact ⟨a, xs, e, s.seqT q, RpL.mono s r⟩
  | .lst ds, _, h => by
    unfold Rp at h ⊢
    obtain ⟨a, xs, e, q, r⟩ := h
    exact ⟨a, xs, e, q.mono s, RpL.mono s r⟩
theorem RpL.mono {K : PySem.W.Frag} {H H' : Hp} (s : Same H H') : ∀ {ds : List Dt} {vs : List V}, RpL K H ds vs → RpL K H' ds vs
  | [], _, h => by unfold RpL at h ⊢; exact h
  | d :: ds, _, h => by
    unfold RpL at h ⊢
    obtain ⟨v, r, e, q, p⟩ := h
    exact ⟨v, r, e, Rp.mono s q, RpL.mono s p⟩
end

section
variable {K : PySem.W.Frag} {H : Hp}
theorem rp_non {v : V} : Rp K H .non v ↔ v = .non := by unfold Rp; exact Iff.rfl
theorem rp_bl {b : Bool} {v : V} : Rp K H (.bl b) v ↔ v = .bl b := by unfold Rp; exact Iff.rfl
theorem rp_int {i : Int} {v : V} : Rp K H (.int i) v ↔ v = .int i := by unfold Rp; exact Iff.rfl
theorem rp_str {x : Str} {v : V} : Rp K H (.str x) v ↔ v = .str x := by unfold Rp; exact Iff.rfl
theorem rp_tup {ds : List Dt} {v : V} : Rp K H (.tup ds) v ↔ ∃ a xs, v = .ref a ∧ SqT K H a xs ∧ RpL K H ds xs := by rw [Rp]
theorem rp_lst0 {ds : List Dt} {v : V} : Rp K H (.lst ds) v ↔ ∃ a xs, v = .ref a ∧ LsD K H a xs ∧ RpL K H ds xs := by rw [Rp]
theorem rp_lstI {ds : List Dt} {v : V} (h : ∃ a xs, v = .ref a ∧ H a = some (.lst xs) ∧ RpL K H ds xs) : Rp K H (.lst ds) v := let ⟨a, xs, e, h1, h2⟩ := h; rp_lst0.mpr ⟨a, xs, e, .inl h1, h2⟩
theorem rp_lstE {ds : List Dt} {v : V} (h : Rp K H (.lst ds) v) : ∃ a xs, v = .ref a ∧ SqL K H a xs ∧ RpL K H ds xs := let ⟨a, xs, e, h1, h2⟩ := rp_lst0.mp h; ⟨a, xs, e, h1.sq, h2⟩
theorem rp_ints {ns : List Int} {a : Addr} (h : SqL K H a (ns.map V.int)) (r : RpL K H (ns.map Dt.int) (ns.map V.int)) : Rp K H (.lst (ns.map Dt.int)) (.ref a) := rp_lst0.mpr ⟨a, _, rfl, .inr ⟨h, fun x hx => by obtain ⟨i, _, rfl⟩ := List.mem_map.mp hx; exact ⟨i, rfl⟩⟩, r⟩
theorem rpl_nil {vs : List V} : RpL K H [] vs ↔ vs = [] := by rw [RpL]
theorem rpl_cons {d : Dt} {ds : List Dt} {vs : List V} : RpL K H (d :: ds) vs ↔ ∃ v r, vs = v :: r ∧ Rp K H d v ∧ RpL K H ds r := by rw [RpL]
theorem RpL.nil : RpL K H [] [] := rpl_nil.mpr rfl
theorem RpL.cons {d : Dt} {ds : List Dt} {v : V} {vs : List V} (h : Rp K H d v) (r : RpL K H ds vs) : RpL K H (d :: ds) (v :: vs) := rpl_cons.mpr ⟨v, vs, rfl, h, r⟩
theorem RpL.len : ∀ {ds : List Dt} {vs : List V}, RpL K H ds vs → vs.length = ds.length
  | [], _, h => by rw [rpl_nil.mp h]; rfl
  | d :: ds, _, h => by
    obtain ⟨v, r, rfl, _, p⟩ := rpl_cons.mp h
    simp [RpL.len p]
theorem RpL.get : ∀ {ds : List Dt} {vs : List V} {i : Nat} {d : Dt}, RpL K H ds vs → ds[i]? = some d → ∃ v, vs[i]? = some v ∧ Rp K H d v
  | [], _, _, _, _, e => by simp at e
  | d :: ds, _, 0, _, h, e => by
    obtain ⟨v, r, rfl, q, p⟩ := rpl_cons.mp h
    simp at e; subst e
    exact ⟨v, rfl, q⟩
  | d :: ds, _, i + 1, _, h, e => by
    obtain ⟨v, r, rfl, q, p⟩ := rpl_cons.mp h
    obtain ⟨u, e1, e2⟩ := RpL.get (i := i) p (by simpa using e)
    exact ⟨u, by simpa using e1, e2⟩
theorem RpL.append : ∀ {ds es : List Dt} {vs ws : List V}, RpL K H ds vs → RpL K H es ws → RpL K H (ds ++ es) (vs ++ ws)
  | [], _, _, _, h, q => by rw [rpl_nil.mp h]; exact q
  | d :: ds, _, _, _, h, q => by
    obtain ⟨v, r, rfl, a, p⟩ := rpl_cons.mp h
    exact .cons a (RpL.append p q)
theorem RpL.drop : ∀ {ds : List Dt} {vs : List V} (n : Nat), RpL K H ds vs → RpL K H (ds.drop n) (vs.drop n)
  | _, _, 0, h => by simpa using h
  | [], _, n + 1, h => by rw [rpl_nil.mp h]; simpa using RpL.nil
  | d :: ds, _, n + 1, h => by
    obtain ⟨v, r, rfl, a, p⟩ := rpl_cons.mp h
    simpa using RpL.drop n p
theorem RpL.take : ∀ {ds : List Dt} {vs : List V} (n : Nat), RpL K H ds vs → RpL K H (ds.take n) (vs.take n)
  | _, _, 0, h => by simpa using RpL.nil
  | [], _, n + 1, h => by rw [rpl_nil.mp h]; simpa using RpL.nil
  | d :: ds, _, n + 1, h => by
    obtain ⟨v, r, rfl, a, p⟩ := rpl_cons.mp h
    simpa using RpL.cons a (RpL.take n p)
theorem RpL.ints : ∀ (ns : List Int), RpL K H (ns.map Dt.int) (ns.map V.int)
  | [] => RpL.nil
  | _ :: ns => RpL.cons (rp_int.mpr rfl) (RpL.ints ns)
end

def mask (O : List Addr) (H : Hp) : Hp := fun a => if a ∈ O then none else H a
theorem mask_in {O : List Addr} {H : Hp} {a : Addr} (h : a ∈ O) : mask O H a = none := if_pos h
theorem mask_out {O : List Addr} {H : Hp} {a : Addr} (h : a ∉ O) : mask O H a = H a := if_neg h
theorem mask_some {O : List Addr} {H : Hp} {a : Addr} {o : HO} (h : mask O H a = some o) : a ∉ O ∧ H a = some o := by
  by_cases q : a ∈ O
  · rw [mask_in q] at h; cases h
  · rw [mask_out q] at h; exact ⟨q, h⟩
theorem mask_le {O : List Addr} {H : Hp} : Same (mask O H) H := fun _ _ h => (mask_some h).2
theorem Same.mask {O : List Addr} {H H' : Hp} (s : Same H H') : Same (mask O H) (L2.mask O H') := fun a o h => by
  obtain ⟨q, e⟩ := mask_some h
  rw [mask_out q]; exact s a o e
theorem mask_sub {O O' : List Addr} {H : Hp} (h : ∀ a ∈ O', a ∈ O) : Same (mask O H) (mask O' H) := fun a o e => by
  obtain ⟨q, e⟩ := mask_some e
  rw [mask_out fun z => q (h a z)]; exact e
theorem Same.upd {H : Hp} {p : Addr} {o : HO} (h : H p = none) : Same H (L2.upd H p o) := fun a u e => by
  rw [upd_ne (ne_of_none e h)]; exact e

inductive En where
  | is (d : Dt) | own (ds : List Dt)
abbrev DEnv := List (Option En)
abbrev DTE := DEnv → (Dt → Prop) → Prop
abbrev DTT := DEnv → (Bool → Prop) → Prop
abbrev DTA := DEnv → (List Dt → Prop) → Prop
structure DEnds where
  nx : DEnv → Prop
  rt : Dt → Prop
  bk : DEnv → Prop := fun _ => False
  ct : DEnv → Prop := fun _ => False
abbrev DTS := DEnds → DEnv → Prop

structure Rep (K : PySem.W.Frag) (B : Hp) (F O : List Addr) (H : Hp) (σ : St) (ρ : DEnv) : Prop where
  len : σ.length = ρ.length
  base : Same B H
  fr : ∀ a ∈ O, B a = none
  th : ∀ a ∈ F ++ O, H a ≠ none
  is : ∀ (i : Nat) (d : Dt), ρ[i]? = some (some (.is d)) → ∃ v, σ[i]? = some (some v) ∧ Rp K (mask (F ++ O) H) d v
  own : ∀ (i : Nat) (ds : List Dt), ρ[i]? = some (some (.own ds)) → ∃ a xs, σ[i]? = some (some (.ref a)) ∧ a ∈ O ∧ a ∉ F ∧ H a = some (.lst xs) ∧ RpL K (mask (F ++ O) H) ds xs
  inj : ∀ (i j : Nat) (ds es : List Dt) (a : Addr), ρ[i]? = some (some (.own ds)) → ρ[j]? = some (some (.own es)) → σ[i]? = some (some (.ref a)) → σ[j]? = some (some (.ref a)) → i = j

section
variable {K : PySem.W.Frag} {B : Hp} {F O : List Addr} {H H' : Hp} {σ : St} {ρ : DEnv}
theorem Rep.same (r : Rep K B F O H σ ρ) (s : Same H H') : Rep K B F O H' σ ρ where
  len := r.len
  base := r.base.trans s
  fr := r.fr
  th := fun a h e => by
    have := r.th a h
    cases q : H a with
    | none => exact this q
    | some o => rw [s a o q] at e; cases e
  is := fun i d e => let ⟨v, h1, h2⟩ := r.is i d e; ⟨v, h1, h2.mono s.mask⟩
  own := fun i ds e => let ⟨a, xs, h1, h2, h3, h4, h5⟩ := r.own i ds e; ⟨a, xs, h1, h2, h3, s _ _ h4, h5.mono s.mask⟩
  inj := r.inj
theorem Rep.below (r : Rep K B F O H σ ρ) : Same (mask F B) (mask (F ++ O) H) := fun a o e => by
  obtain ⟨q, e⟩ := mask_some e
  rw [mask_out]
  · exact r.base a o e
  · intro z
    rcases List.mem_append.mp z with z | z
    · exact q z
    · rw [r.fr a z] at e; cases e
theorem Rep.set (r : Rep K B F O H σ ρ) (i : Nat) {d : Dt} {v : V} (h : Rp K (mask (F ++ O) H) d v) : Rep K B F O H (σ.set i (some v)) (ρ.set i (some (.is d))) := by
  have hl := r.len
  have back : ∀ (j : Nat) (ds : List Dt), (ρ.set i (some (.is d)))[j]? = some (some (.own ds)) → j ≠ i ∧ ρ[j]? = some (some (.own ds)) := fun j ds e => by
    by_cases hj : j = i
    · subst hj
      by_cases hk : j < ρ.length
      · rw [List.getElem?_set_self hk] at e; cases e
      · rw [List.getElem?_eq_none (by simpa using hk)] at e; cases e
    · rw [List.getElem?_set_ne (Ne.symm hj)] at e; exact ⟨hj, e⟩
  refine ⟨by simpa using hl, r.base, r.fr, r.th, fun j e q => ?_, fun j ds q => ?_, fun j k ds es a h1 h2 h3 h4 => ?_⟩
  · by_cases hj : j = i
    · subst hj
      by_cases hk : j < ρ.length
      · rw [List.getElem?_set_self hk] at q
        cases q
        exact ⟨v, List.getElem?_set_self (by omega), h⟩
      · rw [List.getElem?_eq_none (by simpa using hk)] at q; cases q
    · rw [List.getElem?_set_ne (Ne.symm hj)] at q ⊢
      exact r.is j e q
  · obtain ⟨hj, q⟩ := back j ds q
    rw [List.getElem?_set_ne (Ne.symm hj)]
    exact r.own j ds q
  · obtain ⟨hj, q1⟩ := back j ds h1
    obtain ⟨hk, q2⟩ := back k es h2
    rw [List.getElem?_set_ne (Ne.symm hj)] at h3
    rw [List.getElem?_set_ne (Ne.symm hk)] at h4
    exact r.inj j k ds es a q1 q2 h3 h4
end

def lE (K : PySem.W.Frag) (t : DTE) : TE := fun σ H Q => ∃ B F O ρ, Rep K B F O H σ ρ ∧ t ρ fun d => ∀ v H', Same H H' → Rp K (mask (F ++ O) H') d v → Q v H'
def lT (K : PySem.W.Frag) (t : DTT) : TT := fun σ H Q => ∃ B F O ρ, Rep K B F O H σ ρ ∧ t ρ fun b => ∀ H', Same H H' → Q b H'
def lA (K : PySem.W.Frag) (t : DTA) : TA := fun σ H Q => ∃ B F O ρ, Rep K B F O H σ ρ ∧ t ρ fun ds => ∀ vs H', Same H H' → RpL K (mask (F ++ O) H') ds vs → Q vs H'
def lD (K : PySem.W.Frag) (B : Hp) (F : List Addr) (D : Ends) : DEnds where
  nx := fun ρ' => ∀ O' σ' H', Rep K B F O' H' σ' ρ' → D.nx σ' H'
  rt := fun d => ∀ v H', Same B H' → Rp K (mask F H') d v → D.rt v H'
  bk := fun ρ' => ∀ O' σ' H', Rep K B F O' H' σ' ρ' → D.bk σ' H'
  ct := fun ρ' => ∀ O' σ' H', Rep K B F O' H' σ' ρ' → D.ct σ' H'
def lS (K : PySem.W.Frag) (t : DTS) : TS := fun D σ H => ∃ B F O ρ, Rep K B F O H σ ρ ∧ t (lD K B F D) ρ

structure DEnds.le (D D' : DEnds) : Prop where
  nx : ∀ ρ, D.nx ρ → D'.nx ρ
  rt : ∀ d, D.rt d → D'.rt d
  bk : ∀ ρ, D.bk ρ → D'.bk ρ
  ct : ∀ ρ, D.ct ρ → D'.ct ρ

structure DE (X : Cx) (e : Expr) (t : DTE) : Prop where
  mono : ∀ {ρ Q Q'}, (∀ d, Q d → Q' d) → t ρ Q → t ρ Q'
  pe : PE X e (lE X.K t)
structure DT (X : Cx) (e : Expr) (t : DTT) : Prop where
  mono : ∀ {ρ Q Q'}, (∀ d, Q d → Q' d) → t ρ Q → t ρ Q'
  pt : PT X e (lT X.K t)
structure DA (X : Cx) (es : List Expr) (t : DTA) : Prop where
  mono : ∀ {ρ Q Q'}, (∀ d, Q d → Q' d) → t ρ Q → t ρ Q'
  pa : PA X es (lA X.K t)
structure DS (X : Cx) (st : Stmt) (t : DTS) : Prop where
  mono : ∀ {ρ D D'}, DEnds.le D D' → t D ρ → t D' ρ
  ps : PS X st (lS X.K t)
structure DSs (X : Cx) (st : List Stmt) (t : DTS) : Prop where
  mono : ∀ {ρ D D'}, DEnds.le D D' → t D ρ → t D' ρ
  ps : PSs X st (lS X.K t)

theorem PE.imp {X : Cx} {e : Expr} {t t' : TE} (h : PE X e t) (i : ∀ σ H Q, t' σ H Q → t σ H Q) : PE X e t' := fun pins s σ H Q I q => h pins s σ H Q I (i _ _ _ q)
theorem PT.imp {X : Cx} {e : Expr} {t t' : TT} (h : PT X e t) (i : ∀ σ H Q, t' σ H Q → t σ H Q) : PT X e t' := fun pins s σ H Q I q => h pins s σ H Q I (i _ _ _ q)
theorem PA.imp {X : Cx} {e : List Expr} {t t' : TA} (h : PA X e t) (i : ∀ σ H Q, t' σ H Q → t σ H Q) : PA X e t' := fun pos pins s σ H Q I q => h pos pins s σ H Q I (i _ _ _ q)
theorem PS.imp {X : Cx} {e : Stmt} {t t' : TS} (h : PS X e t) (i : ∀ D σ H, t' D σ H → t D σ H) : PS X e t' := fun pins s σ H D I q => h pins s σ H D I (i _ _ _ q)
theorem PSs.imp {X : Cx} {e : List Stmt} {t t' : TS} (h : PSs X e t) (i : ∀ D σ H, t' D σ H → t D σ H) : PSs X e t' := fun pins s σ H D I q => h pins s σ H D I (i _ _ _ q)

section
variable {X : Cx} {a b c e : Expr} {es : List Expr} {ta tb tc te : DTE} {tA tB : DTT} {tl : DTA} {pos : Pos}

def dVar (i : Nat) : DTE := fun ρ Q => match ρ[i]? with
  | some (some (.is d)) => Q d
  | _ => False
def dC (d : Dt) : DTE := fun _ Q => Q d
theorem dv (i : Nat) {x : Str} {pos : Pos} (hN : X.N[i]? = some x := by rfl) (hv : Vis X.env.scope x := by first | exact Or.inl rfl | exact Or.inr (Or.inl rfl) | exact Or.inr (Or.inr rfl)) (hd : (x == ("__debug__" : Str)) = false := by decide)
    (hcd : (x == ("__classdict__" : Str)) = false := by decide) : DE X (.Name x pos) (dVar i) where
  mono := fun {ρ Q Q'} hq h => by
    unfold dVar at h ⊢
    split at h
    · exact hq _ h
    · exact h.elim
  pe := (pe_var hN hv hd hcd).imp fun σ H Q ⟨B, F, O, ρ, r, h⟩ => by
    unfold dVar at h
    split at h
    · rename_i d e
      obtain ⟨v, h1, h2⟩ := r.is i d e
      exact ⟨v, h1, h v H (Same.refl H) h2⟩
    · exact h.elim
theorem de_c {v : V} {d : Dt} (h : PE X e (tC v)) (hr : ∀ K H, Rp K H d v) : DE X e (dC d) where
  mono := fun hq h => hq _ h
  pe := h.imp fun σ H Q ⟨B, F, O, ρ, r, h⟩ => h v H (Same.refl H) (hr _ _)
theorem de_int {i j pos} : DE X (.Constant (.int i) j pos) (dC (.int i)) := de_c pe_int fun _ _ => rp_int.mpr rfl
theorem de_bl {i j pos} : DE X (.Constant (.bool i) j pos) (dC (.bl i)) := de_c pe_bl fun _ _ => rp_bl.mpr rfl
theorem de_str {x j pos} : DE X (.Constant (.str x) j pos) (dC (.str x)) := de_c pe_str fun _ _ => rp_str.mpr rfl
theorem de_glob {x : Str} {v : V} {u : Value} {d : Dt} {pos : Pos} (hg : Gl X x) (hm : X.mg x = some u) (r : RelV v u) (hr : ∀ H, Rp X.K H d v) (hd : (x == ("__debug__" : Str)) = false := by decide) : DE X (.Name x pos) (dC d) where
  mono := fun hq h => hq _ h
  pe := (pe_glob hg hm r hd).imp fun σ H Q ⟨B, F, O, ρ, _, h⟩ => h v H (Same.refl H) (hr _)

abbrev D2 := Dt → Dt → (Dt → Prop) → Prop
structure Sem2 (K : PySem.W.Frag) (r : R2) (t : D2) : Prop where
  mono : ∀ {a b Q Q'}, (∀ d, Q d → Q' d) → t a b Q → t a b Q'
  ok : ∀ (O : List Addr) (H : Hp) (a b : Dt) (x y : V) (Q : VK), (∀ p ∈ O, H p ≠ none) → Rp K (mask O H) a x → Rp K (mask O H) b y →
    t a b (fun d => ∀ v H', Same H H' → Rp K (mask O H') d v → Q v H') → r x y H Q
def dOp (t : D2) (ta tb : DTE) : DTE := fun ρ Q => ta ρ fun a => tb ρ fun b => t a b Q
theorem op_imp {K : PySem.W.Frag} {r : R2} {t : D2} (S : Sem2 K r t) {ta tb : DTE} (ma : ∀ {ρ Q Q'}, (∀ d, Q d → Q' d) → ta ρ Q → ta ρ Q') (mb : ∀ {ρ Q Q'}, (∀ d, Q d → Q' d) → tb ρ Q → tb ρ Q')
    (σ : St) (H : Hp) (Q : VK) (h : lE K (dOp t ta tb) σ H Q) : tOp r (lE K ta) (lE K tb) σ H Q := by
  obtain ⟨B, F, O, ρ, R, h⟩ := h
  refine ⟨B, F, O, ρ, R, ma (fun a h v H1 s1 r1 => ?_) h⟩
  refine ⟨B, F, O, ρ, R.same s1, mb (fun b h u H2 s2 r2 => ?_) h⟩
  exact S.ok _ H2 a b v u Q ((R.same s1).same s2).th (r1.mono s2.mask) r2 (S.mono (fun d q w H3 s3 r3 => q w H3 ((s1.trans s2).trans s3) r3) h)
theorem dop_mono {t : D2} (m : ∀ {a b Q Q'}, (∀ d, Q d → Q' d) → t a b Q → t a b Q') (ma : ∀ {ρ Q Q'}, (∀ d, Q d → Q' d) → ta ρ Q → ta ρ Q') (mb : ∀ {ρ Q Q'}, (∀ d, Q d → Q' d) → tb ρ Q → tb ρ Q') :
    ∀ {ρ Q Q'}, (∀ d, Q d → Q' d) → dOp t ta tb ρ Q → dOp t ta tb ρ Q' := fun hq h => ma (fun _ h => mb (fun _ h => m hq h) h) h
theorem de_op {op : Operator} {r : R2} {t : D2} (ho : OpR X (binaryOp op) r) (S : Sem2 X.K r t) (ha : DE X a ta) (hb : DE X b tb) : DE X (.BinOp a op b pos) (dOp t ta tb) where
  mono := dop_mono (t := t) (ta := ta) (tb := tb) S.mono ha.mono hb.mono
  pe := (pe_op ho ha.pe hb.pe).imp (op_imp (ta := ta) (tb := tb) S ha.mono hb.mono)
theorem de_cmp {op : CmpOp} {r : R2} {t : D2} (ho : OpR X (compareOp op) r) (S : Sem2 X.K r t) (ha : DE X a ta) (hb : DE X b tb) (hm : behindInMarks op b = false) : DE X (.Compare a [op] [b] pos) (dOp t ta tb) where
  mono := dop_mono (t := t) (ta := ta) (tb := tb) S.mono ha.mono hb.mono
  pe := (pe_cmpR ho ha.pe hb.pe hm).imp (op_imp (ta := ta) (tb := tb) S ha.mono hb.mono)
theorem de_ix {r : R2} {t : D2} (ho : IxR X r) (S : Sem2 X.K r t) (ha : DE X a ta) (hb : DE X b tb) (hs : PlainIx b) : DE X (.Subscript a b pos) (dOp t ta tb) where
  mono := dop_mono (t := t) (ta := ta) (tb := tb) S.mono ha.mono hb.mono
  pe := (pe_ix ho ha.pe hb.pe hs).imp (op_imp (ta := ta) (tb := tb) S ha.mono hb.mono)
def dI (C : Int → Int → Prop) (g : Int → Int → Int) : D2 := fun a b Q => match a, b with
  | .int i, .int j => C i j ∧ Q (.int (g i j))
  | _, _ => False
def dI0 (g : Int → Int → Int) : D2 := fun a b Q => match a, b with
  | .int i, .int j => Q (.int (g i j))
  | _, _ => False
def dB0 (g : Int → Int → Bool) : D2 := fun a b Q => match a, b with
  | .int i, .int j => Q (.bl (g i j))
  | _, _ => False
theorem sem_I {K : PySem.W.Frag} {C : Int → Int → Prop} {g : Int → Int → Int} : Sem2 K (rI C fun i j => .int (g i j)) (dI C g) where
  mono := fun {a b Q Q'} hq h => by
    unfold dI at h ⊢
    split at h
    · exact ⟨h.1, hq _ h.2⟩
    · exact h.elim
  ok := fun O H a b x y Q _ ra rb h => by
    unfold dI at h
    split at h
    · exact ⟨_, _, rp_int.mp ra, rp_int.mp rb, h.1, h.2 _ H (Same.refl H) (rp_int.mpr rfl)⟩
    · exact h.elim
theorem sem_I0 {K : PySem.W.Frag} {g : Int → Int → Int} : Sem2 K (rI0 fun i j => .int (g i j)) (dI0 g) where
  mono := fun {a b Q Q'} hq h => by
    unfold dI0 at h ⊢
    split at h
    · exact hq _ h
    · exact h.elim
  ok := fun O H a b x y Q _ ra rb h => by
    unfold dI0 at h
    split at h
    · exact ⟨_, _, rp_int.mp ra, rp_int.mp rb, h _ H (Same.refl H) (rp_int.mpr rfl)⟩
    · exact h.elim
theorem sem_B0 {K : PySem.W.Frag} {g : Int → Int → Bool} : Sem2 K (rI0 fun i j => .bl (g i j)) (dB0 g) where
  mono := fun {a b Q Q'} hq h => by
    unfold dB0 at h ⊢
    split at h
    · exact hq _ h
    · exact h.elim
  ok := fun O H a b x y Q _ ra rb h => by
    unfold dB0 at h
    split at h
    · exact ⟨_, _, rp_int.mp ra, rp_int.mp rb, h _ H (Same.refl H) (rp_bl.mpr rfl)⟩
    · exact h.elim
theorem op_mulO : OpR X (binaryOp .Mult) (rI IntMulOk fun i j => .int (i * j)) := opI fun _ _ _ _ _ _ _ hc q => mul_int q hc
def CDv (_ j : Int) : Prop := j ≠ 0 ∧ j.natAbs < 2 ^ 9000
theorem log2_small {n : Nat} (h : n < 2 ^ 9000) : n.log2 < 9000 := by
  by_cases h0 : n = 0
  · subst h0; decide +kernel
  · exact (Nat.log2_lt h0).mpr h
theorem op_fdivO : OpR X (binaryOp .FloorDiv) (rI CDv fun i j => .int (i.fdiv j)) := opI fun _ _ _ _ _ _ _ hc q => floordiv_int hc.1 q (.inl (PyProof.noPylong_of_log2 (log2_small hc.2)))
def dAdd : D2 := dI0 fun i j => i + j
def dSub : D2 := dI0 fun i j => i - j
def dMul : D2 := dI IntMulOk fun i j => i * j
def dMod : D2 := dI (fun _ j => j ≠ 0) fun i j => i.fmod j
def dDiv : D2 := dI CDv fun i j => i.fdiv j
def dPow : D2 := dI CPow fun i j => i ^ j.toNat
def dShl : D2 := dI CPow fun i j => i * 2 ^ j.toNat
def dShr : D2 := dI (fun _ j => 0 ≤ j) fun i j => i / 2 ^ j.toNat
theorem de_add (ha : DE X a ta) (hb : DE X b tb) : DE X (.BinOp a .Add b pos) (dOp dAdd ta tb) := de_op op_add sem_I0 ha hb
theorem de_sub (ha : DE X a ta) (hb : DE X b tb) : DE X (.BinOp a .Sub b pos) (dOp dSub ta tb) := de_op op_sub sem_I0 ha hb
theorem de_mul (ha : DE X a ta) (hb : DE X b tb) : DE X (.BinOp a .Mult b pos) (dOp dMul ta tb) := de_op op_mulO sem_I ha hb
theorem de_mod (ha : DE X a ta) (hb : DE X b tb) : DE X (.BinOp a .Mod b pos) (dOp dMod ta tb) := de_op op_modN sem_I ha hb
theorem de_div (ha : DE X a ta) (hb : DE X b tb) : DE X (.BinOp a .FloorDiv b pos) (dOp dDiv ta tb) := de_op op_fdivO sem_I ha hb
theorem de_pow (ha : DE X a ta) (hb : DE X b tb) : DE X (.BinOp a .Pow b pos) (dOp dPow ta tb) := de_op op_pow sem_I ha hb
theorem de_shl (ha : DE X a ta) (hb : DE X b tb) : DE X (.BinOp a .LShift b pos) (dOp dShl ta tb) := de_op op_shl sem_I ha hb
def dLt : D2 := dB0 fun i j => decide (i < j)
def dLe : D2 := dB0 fun i j => decide (i ≤ j)
def dGt : D2 := dB0 fun i j => decide (j < i)
def dGe : D2 := dB0 fun i j => decide (j ≤ i)
theorem de_ge (ha : DE X a ta) (hb : DE X b tb) : DE X (.Compare a [.GtE] [b] pos) (dOp dGe ta tb) := de_cmp op_ge sem_B0 ha hb (nomark _)

def ixL : Int → List Dt → Option Dt
  | .ofNat n, ds => ds[n]?
  | .negSucc m, ds => if m < ds.length then ds[ds.length - 1 - m]? else none
def ixD (i : Int) : Dt → Option Dt
  | .tup ds => ixL i ds
  | .lst ds => ixL i ds
  | _ => none
theorem ixL_at {i : Int} {ds : List Dt} {d : Dt} (h : ixL i ds = some d) : atI ds i = some d := by
  cases i with
  | ofNat n => exact atI_nat h
  | negSucc m =>
    have h' : (if m < ds.length then ds[ds.length - 1 - m]? else none) = some d := h
    by_cases hm : m < ds.length
    · rw [if_pos hm] at h'
      unfold atI ixN
      have h1 : ¬ (0 : Int) ≤ Int.negSucc m := by omega
      have h2 : -(ds.length : Int) ≤ Int.negSucc m := by omega
      have h3 : (Int.negSucc m + (ds.length : Int)).toNat = ds.length - 1 - m := by omega
      rw [if_neg h1, if_pos h2, Option.bind_some, h3]
      exact h'
    · rw [if_neg hm] at h'; cases h'
def dIx : D2 := fun a b Q => match b with
  | .int i => match ixD i a with
    | some d => Q d
    | none => False
  | _ => False
theorem atI_rp {K : PySem.W.Frag} {H : Hp} {ds : List Dt} {xs : List V} {i : Int} {d : Dt} (r : RpL K H ds xs) (h : atI ds i = some d) : ∃ v, atI xs i = some v ∧ Rp K H d v := by
  unfold atI at h ⊢
  rw [r.len]
  cases e : ixN ds.length i with
  | none => rw [e] at h; cases h
  | some j =>
    rw [e] at h
    exact r.get h
theorem sem_ix {K : PySem.W.Frag} : Sem2 K (rIx K) dIx where
  mono := fun {a b Q Q'} hq h => by
    unfold dIx at h ⊢
    split at h
    · split at h
      · rename_i e; exact hq _ h
      · exact h.elim
    · exact h.elim
  ok := fun O H a b x y Q _ ra rb h => by
    unfold dIx at h
    split at h
    · split at h
      · rename_i i _ d e
        have eb := rp_int.mp rb
        subst eb
        cases a with
        | tup ds =>
          obtain ⟨p, xs, rfl, hs, hl⟩ := rp_tup.mp ra
          obtain ⟨v, e1, e2⟩ := atI_rp hl (ixL_at e)
          exact .inr (.inl ⟨p, xs, i, v, rfl, rfl, mask_le.seqT hs, e1, h v H (Same.refl H) e2⟩)
        | lst ds =>
          obtain ⟨p, xs, rfl, hs, hl⟩ := rp_lstE ra
          obtain ⟨v, e1, e2⟩ := atI_rp hl (ixL_at e)
          exact .inl ⟨p, xs, i, v, rfl, rfl, mask_le.seq hs, e1, h v H (Same.refl H) e2⟩
        | _ => cases e
      · exact h.elim
    · exact h.elim
theorem de_sub_ix (ha : DE X a ta) (hb : DE X b tb) (hs : PlainIx b := by exact fun _ _ => rfl) : DE X (.Subscript a b pos) (dOp dIx ta tb) := de_ix ix_seq sem_ix ha hb hs

def dNeg : Dt → (Dt → Prop) → Prop := fun a Q => match a with
  | .int i => Q (.int (-i))
  | _ => False
def dUn (t : Dt → (Dt → Prop) → Prop) (ta : DTE) : DTE := fun ρ Q => ta ρ fun a => t a Q
theorem de_neg (ha : DE X a ta) : DE X (.UnaryOp .USub a pos) (dUn dNeg ta) where
  mono := fun hq h => ha.mono (fun d h => by
    unfold dNeg at h ⊢
    split at h
    · exact hq _ h
    · exact h.elim) h
  pe := (pe_un un_neg ha.pe).imp fun σ H Q ⟨B, F, O, ρ, R, h⟩ => ⟨B, F, O, ρ, R, ha.mono (fun d h v H1 s1 r1 => by
    unfold dNeg at h
    split at h
    · exact ⟨_, rp_int.mp r1, h _ H1 s1 (rp_int.mpr rfl)⟩
    · exact h.elim) h⟩

def dNot (ta : DTE) : DTE := fun ρ Q => ta ρ fun a => match a with
  | .bl k => Q (.bl (!k))
  | _ => False
def dAnd (ta tb : DTE) : DTE := fun ρ Q => ta ρ fun a => match a with
  | .bl k => if k = true then tb ρ Q else Q (.bl false)
  | _ => False
def dOr (ta tb : DTE) : DTE := fun ρ Q => ta ρ fun a => match a with
  | .bl k => if k = true then Q (.bl true) else tb ρ Q
  | _ => False
theorem de_one {op} (h : DE X a ta) : DE X (.BoolOp op [a] pos) ta := ⟨h.mono, pe_one h.pe⟩
theorem de_and {rest : List Expr} (ha : DE X a ta) (hb : DE X (.BoolOp .And (b :: rest) pos) tb) : DE X (.BoolOp .And (a :: b :: rest) pos) (dAnd ta tb) where
  mono := fun hq h => ha.mono (fun d h => by
    split at h
    · split at h
      · rename_i e; simp only [e, if_true]; exact hb.mono hq h
      · rename_i e; simp only [e]; exact hq _ h
    · exact h.elim) h
  pe := (pe_and ha.pe hb.pe).imp fun σ H Q ⟨B, F, O, ρ, R, h⟩ => ⟨B, F, O, ρ, R, ha.mono (fun d h v H1 s1 r1 => by
    split at h
    · rename_i k
      refine ⟨k, rp_bl.mp r1, ?_⟩
      cases k with
      | true => exact ⟨B, F, O, ρ, R.same s1, hb.mono (fun d q v H2 s2 r2 => q v H2 (s1.trans s2) r2) h⟩
      | false => exact h _ H1 s1 (rp_bl.mpr rfl)
    · exact h.elim) h⟩
theorem de_or {rest : List Expr} (ha : DE X a ta) (hb : DE X (.BoolOp .Or (b :: rest) pos) tb) : DE X (.BoolOp .Or (a :: b :: rest) pos) (dOr ta tb) where
  mono := fun hq h => ha.mono (fun d h => by
    split at h
    · split at h
      · rename_i e; simp only [e, if_true]; exact hq _ h
      · rename_i e; simp only [e]; exact hb.mono hq h
    · exact h.elim) h
  pe := (pe_or ha.pe hb.pe).imp fun σ H Q ⟨B, F, O, ρ, R, h⟩ => ⟨B, F, O, ρ, R, ha.mono (fun d h v H1 s1 r1 => by
    split at h
    · rename_i k
      refine ⟨k, rp_bl.mp r1, ?_⟩
      cases k with
      | false => exact ⟨B, F, O, ρ, R.same s1, hb.mono (fun d q v H2 s2 r2 => q v H2 (s1.trans s2) r2) h⟩
      | true => exact h _ H1 s1 (rp_bl.mpr rfl)
    · exact h.elim) h⟩

def dTst (t : DTE) : DTT := fun ρ Q => t ρ fun a => match a with
  | .bl k => Q k
  | _ => False
theorem dtst_mono {t : DTE} (m : ∀ {ρ Q Q'}, (∀ d, Q d → Q' d) → t ρ Q → t ρ Q') : ∀ {ρ Q Q'}, (∀ d, Q d → Q' d) → dTst t ρ Q → dTst t ρ Q' := fun hq h => m (fun d h => by
    split at h
    · exact hq _ h
    · exact h.elim) h
theorem dt_val (h : DE X e te) (he : ∀ whole, isTrue e X.env whole = (do let v ← whole; standAt e.pos; holding [v] (truthy v)) := by intro _; rfl) : DT X e (dTst te) where
  mono := dtst_mono (t := te) h.mono
  pt := (pt_val h.pe he).imp fun σ H Q ⟨B, F, O, ρ, R, q⟩ => ⟨B, F, O, ρ, R, h.mono (fun d q v H1 s1 r1 => by
    split at q
    · exact ⟨_, rp_bl.mp r1, q H1 s1⟩
    · exact q.elim) q⟩
theorem dt_cmp {op : CmpOp} {r : R2} {t : D2} (ho : OpR X (compareOp op) r) (S : Sem2 X.K r t) (ha : DE X a ta) (hb : DE X b tb) (hm : behindInMarks op b = false) : DT X (.Compare a [op] [b] pos) (dTst (dOp t ta tb)) where
  mono := dtst_mono (t := dOp t ta tb) (dop_mono (t := t) (ta := ta) (tb := tb) S.mono ha.mono hb.mono)
  pt := (pt_cmpR ho ha.pe hb.pe hm).imp fun σ H Q ⟨B, F, O, ρ, R, q⟩ => op_imp (ta := ta) (tb := tb) S ha.mono hb.mono σ H _ ⟨B, F, O, ρ, R, dop_mono (t := t) (ta := ta) (tb := tb) S.mono ha.mono hb.mono (fun d q v H1 s1 r1 => by
    split at q
    · exact ⟨_, rp_bl.mp r1, q H1 s1⟩
    · exact q.elim) q⟩
theorem dt_lt (ha : DE X a ta) (hb : DE X b tb) : DT X (.Compare a [.Lt] [b] pos) (dTst (dOp dLt ta tb)) := dt_cmp op_lt sem_B0 ha hb (nomark _)
theorem dt_gt (ha : DE X a ta) (hb : DE X b tb) : DT X (.Compare a [.Gt] [b] pos) (dTst (dOp dGt ta tb)) := dt_cmp op_gt sem_B0 ha hb (nomark _)
def dTNot (t : DTT) : DTT := fun ρ Q => t ρ fun k => Q (!k)
def dTAnd (t u : DTT) : DTT := fun ρ Q => t ρ fun k => if k = true then u ρ Q else Q false
def dTOr (t u : DTT) : DTT := fun ρ Q => t ρ fun k => if k = true then Q true else u ρ Q
theorem dt_not (ha : DT X a tA) : DT X (.UnaryOp .Not a pos) (dTNot tA) where
  mono := fun hq h => ha.mono (fun _ h => hq _ h) h
  pt := (pt_not ha.pt).imp fun σ H Q ⟨B, F, O, ρ, R, q⟩ => ⟨B, F, O, ρ, R, q⟩
structure DW (X : Cx) (e : Expr) (t : DTT) : Prop where
  mono : ∀ {ρ Q Q'}, (∀ d, Q d → Q' d) → t ρ Q → t ρ Q'
  pw : PW X e (lT X.K t)
theorem DW.dt {t : DTT} (h : DW X e t) : DT X e t := ⟨h.mono, h.pw.pt⟩
theorem dw_and1 (ha : DT X a tA) : DW X (.BoolOp .And [a] pos) tA := ⟨ha.mono, pw_and1 ha.pt⟩
theorem dw_or1 (ha : DT X a tA) : DW X (.BoolOp .Or [a] pos) tA := ⟨ha.mono, pw_or1 ha.pt⟩
theorem PW.imp {t t' : TT} (h : PW X e t) (i : ∀ σ H Q, t' σ H Q → t σ H Q) : PW X e t' := fun wh pins s σ H Q I q => h wh pins s σ H Q I (i _ _ _ q)
theorem dw_and {rest : List Expr} (ha : DT X a tA) (hb : DW X (.BoolOp .And (b :: rest) pos) tB) : DW X (.BoolOp .And (a :: b :: rest) pos) (dTAnd tA tB) where
  mono := fun hq h => ha.mono (fun k h => by
    cases k with
    | true => exact hb.mono hq h
    | false => exact hq _ h) h
  pw := (pw_and ha.pt hb.pw).imp fun σ H Q ⟨B, F, O, ρ, R, q⟩ => ⟨B, F, O, ρ, R, ha.mono (fun k h H1 s1 => by
    cases k with
    | true => exact ⟨B, F, O, ρ, R.same s1, hb.mono (fun k q H2 s2 => q H2 (s1.trans s2)) h⟩
    | false => exact h H1 s1) q⟩
theorem dw_or {rest : List Expr} (ha : DT X a tA) (hb : DW X (.BoolOp .Or (b :: rest) pos) tB) : DW X (.BoolOp .Or (a :: b :: rest) pos) (dTOr tA tB) where
  mono := fun hq h => ha.mono (fun k h => by
    cases k with
    | true => exact hq _ h
    | false => exact hb.mono hq h) h
  pw := (pw_or ha.pt hb.pw).imp fun σ H Q ⟨B, F, O, ρ, R, q⟩ => ⟨B, F, O, ρ, R, ha.mono (fun k h H1 s1 => by
    cases k with
    | false => exact ⟨B, F, O, ρ, R.same s1, hb.mono (fun k q H2 s2 => q H2 (s1.trans s2)) h⟩
    | true => exact h H1 s1) q⟩
def dIfE (t : DTT) (ta tb : DTE) : DTE := fun ρ Q => t ρ fun k => if k = true then ta ρ Q else tb ρ Q
def dNil : DTA := fun _ Q => Q []
def dCons (te : DTE) (tl : DTA) : DTA := fun ρ Q => te ρ fun d => tl ρ fun ds => Q (d :: ds)
theorem da_nil : DA X [] dNil := ⟨fun hq h => hq _ h, pa_nil.imp fun σ H Q ⟨B, F, O, ρ, R, q⟩ => q [] H (Same.refl H) RpL.nil⟩
theorem da_cons (ha : DE X e te) (hr : DA X es tl) (hs : starEach (e :: es) X.env = (false, eval e X.env) :: starEach es X.env := by rfl) : DA X (e :: es) (dCons te tl) where
  mono := fun hq h => ha.mono (fun d h => hr.mono (fun ds h => hq _ h) h) h
  pa := (pa_cons ha.pe hr.pa hs).imp fun σ H Q ⟨B, F, O, ρ, R, q⟩ => ⟨B, F, O, ρ, R, ha.mono (fun d h v H1 s1 r1 => ⟨B, F, O, ρ, R.same s1, hr.mono (fun ds h vs H2 s2 r2 =>
    h (v :: vs) H2 (s1.trans s2) (RpL.cons (r1.mono s2.mask) r2)) h⟩) q⟩
def dTup (tl : DTA) : DTE := fun ρ Q => tl ρ fun ds => ds.length ≤ sizeLine ∧ Q (.tup ds)
def dLst (tl : DTA) : DTE := fun ρ Q => tl ρ fun ds => ds.length ≤ sizeLine ∧ Q (.lst ds)
theorem mask_upd {O : List Addr} {H : Hp} {p : Addr} {o : HO} (hp : p ∉ O) : mask O (upd H p o) p = some o := by rw [mask_out hp, upd_same]
theorem de_tup {k} (h : DA X es tl) : DE X (.Tuple es k pos) (dTup tl) where
  mono := fun hq z => h.mono (fun ds q => ⟨q.1, hq _ q.2⟩) z
  pe := (pe_tup h.pa).imp fun σ H Q ⟨B, F, O, ρ, R, q⟩ => ⟨B, F, O, ρ, R, h.mono (fun ds z vs H1 s1 r1 => ⟨by rw [r1.len]; exact z.1, fun p hp => by
    have np : p ∉ F ++ O := fun m => (R.same s1).th p m hp
    exact z.2 (.ref p) _ (s1.trans (Same.upd hp)) (rp_tup.mpr ⟨p, vs, rfl, SqT.of (mask_upd np), r1.mono (Same.upd hp).mask⟩)⟩) q⟩
theorem de_lst (h : DA X es tl) : DE X (.List es pos) (dLst tl) where
  mono := fun hq z => h.mono (fun ds q => ⟨q.1, hq _ q.2⟩) z
  pe := (pe_lst h.pa).imp fun σ H Q ⟨B, F, O, ρ, R, q⟩ => ⟨B, F, O, ρ, R, h.mono (fun ds z vs H1 s1 r1 => ⟨by rw [r1.len]; exact z.1, fun p hp => by
    have np : p ∉ F ++ O := fun m => (R.same s1).th p m hp
    exact z.2 (.ref p) _ (s1.trans (Same.upd hp)) (rp_lstI ⟨p, vs, rfl, (mask_upd np), r1.mono (Same.upd hp).mask⟩)⟩) q⟩

abbrev DSp := List Dt → (Dt → Prop) → Prop
def lSp (K : PySem.W.Frag) (sp : DSp) : Sp := fun vs H Q _ => ∃ F ds, (∀ a ∈ F, H a ≠ none) ∧ RpL K (mask F H) ds vs ∧ sp ds fun d => ∀ v H', Same H H' → Rp K (mask F H') d v → Q v H'
def MonoSp (sp : DSp) : Prop := ∀ ds Q Q', (∀ d, Q d → Q' d) → sp ds Q → sp ds Q'
def dCall (sp : DSp) (tl : DTA) : DTE := fun ρ Q => tl ρ fun ds => sp ds Q
theorem de_call {CX : CXT} {k : Nat} {f : Addr} {fd : FuncData} {ps : List Str} {sp : DSp} {x : Str} {p : Pos} (m : MonoSp sp) (G : FnOk X.prog X.w X.K X.mg X.base CX0 k f fd ps (lSp X.K sp)) (hr : Room k X.A) (hg : Gl X x) (hm : X.mg x = some (.ref f))
    (hk : PySem.W.keepIn X.K (.ref f) = true) (hb : Binds X.K fd ps []) (ha : DA X (e :: es) tl) (hdb : (x == ("__debug__" : Str)) = false := by decide)
    (he : starEach (e :: es) X.env = (false, eval e X.env) :: starEach es X.env := by rfl) (hpl : (backTo pos (starEach es X.env)).any (·.1) = false := by rfl) : DE X (.Call (.Name x p) (e :: es) [] pos) (dCall sp tl) where
  mono := fun hq z => ha.mono (fun ds q => m _ _ _ hq q) z
  pe := (pe_call G hr hg hm hk hb .nil pass0 ha.pa hdb he hpl).imp fun σ H Q ⟨B, F, O, ρ, R, q⟩ => ⟨B, F, O, ρ, R, ha.mono (fun ds z vs H1 s1 r1 => by
    show lSp X.K sp (vs ++ []) H1 Q E0
    rw [List.append_nil]
    exact ⟨F ++ O, ds, (R.same s1).th, r1, m _ _ _ (fun d q v H2 s2 r2 => q v H2 (s1.trans s2) r2) z⟩) q⟩

variable {st : Stmt} {sts : List Stmt} {t u : DTS}
def dNext : DTS := fun D ρ => D.nx ρ
def dSeq (t u : DTS) : DTS := fun D ρ => t { D with nx := u D } ρ
theorem le_nx {D D' : DEnds} {P P' : DEnv → Prop} (h : DEnds.le D D') (hp : ∀ ρ, P ρ → P' ρ) : DEnds.le { D with nx := P } { D' with nx := P' } := ⟨hp, h.rt, h.bk, h.ct⟩
theorem le_refl {D : DEnds} : DEnds.le D D := ⟨fun _ h => h, fun _ h => h, fun _ h => h, fun _ h => h⟩
theorem dss_nil : DSs X [] dNext := ⟨fun hd h => hd.nx _ h, pss_nil.imp fun D σ H ⟨B, F, O, ρ, R, h⟩ => h O σ H R⟩
theorem dss_cons (h1 : DS X st t) (h2 : DSs X sts u) : DSs X (st :: sts) (dSeq t u) where
  mono := fun hd h => h1.mono (le_nx hd fun ρ q => h2.mono hd q) h
  ps := (pss_cons h1.ps h2.ps).imp fun D σ H ⟨B, F, O, ρ, R, h⟩ => ⟨B, F, O, ρ, R, h1.mono (D := { lD X.K B F D with nx := u (lD X.K B F D) }) ⟨fun ρ' q O' σ' H' R' => ⟨B, F, O', ρ', R', q⟩, fun _ q => q, fun _ q => q, fun _ q => q⟩ h⟩
theorem dss_one (h1 : DS X st t) : DSs X [st] t := ⟨h1.mono, pss_one h1.ps⟩
def dNever : DTS := fun _ _ => False
theorem ds_never : DS X st dNever := ⟨fun _ h => h.elim, ps_never.imp fun D σ H ⟨B, F, O, ρ, R, h⟩ => h.elim⟩
def dDrop (te : DTE) : DTS := fun D ρ => te ρ fun _ => D.nx ρ
theorem ds_expr (he : DE X e te) (hs : swapsWith e none pos.line X.env = pure false := by rfl) : DS X (.Expr e pos) (dDrop te) where
  mono := fun hd h => he.mono (fun _ h => hd.nx _ h) h
  ps := (ps_expr he.pe hs).imp fun D σ H ⟨B, F, O, ρ, R, h⟩ => ⟨B, F, O, ρ, R, he.mono (fun d q v H1 s1 _ => q O σ H1 (R.same s1)) h⟩
def dRet (te : DTE) : DTS := fun D ρ => te ρ D.rt
theorem mask_app {F O : List Addr} {H : Hp} : Same (mask (F ++ O) H) (mask F H) := mask_sub fun _ h => List.mem_append_left _ h
theorem ds_ret (he : DE X e te) : DS X (.Return (some e) pos) (dRet te) where
  mono := fun hd h => he.mono (fun _ h => hd.rt _ h) h
  ps := (ps_ret he.pe).imp fun D σ H ⟨B, F, O, ρ, R, h⟩ => ⟨B, F, O, ρ, R, he.mono (fun d q v H1 s1 r1 => q v H1 (R.base.trans s1) (r1.mono mask_app)) h⟩
def dRetN : DTS := fun D _ => D.rt .non
def dIf (c : DTT) (t u : DTS) : DTS := fun D ρ => c ρ fun k => if k = true then t D ρ else u D ρ
theorem ds_if {sa sb : List Stmt} (hc : DT X c tA) (ha : DSs X sa t) (hb : DSs X sb u) : DS X (.If c sa sb pos) (dIf tA t u) where
  mono := fun hd h => hc.mono (fun k h => by
    cases k with
    | true => exact ha.mono hd h
    | false => exact hb.mono hd h) h
  ps := (ps_if hc.pt ha.ps hb.ps).imp fun D σ H ⟨B, F, O, ρ, R, h⟩ => ⟨B, F, O, ρ, R, hc.mono (fun k h H1 s1 => by
    cases k with
    | true => exact ⟨B, F, O, ρ, R.same s1, h⟩
    | false => exact ⟨B, F, O, ρ, R.same s1, h⟩) h⟩

abbrev DTG := Dt → DEnv → (DEnv → Prop) → Prop
abbrev DTGs := List Dt → DEnv → (DEnv → Prop) → Prop
def lG (K : PySem.W.Frag) (g : DTG) : TG := fun v σ H Q => ∃ B F O ρ d, Rep K B F O H σ ρ ∧ Rp K (mask (F ++ O) H) d v ∧ g d ρ fun ρ' => ∀ σ', Rep K B F O H σ' ρ' → Q σ' H
def lGs (K : PySem.W.Frag) (g : DTGs) : TGs := fun vs σ H Q => ∃ B F O ρ ds, Rep K B F O H σ ρ ∧ RpL K (mask (F ++ O) H) ds vs ∧ g ds ρ fun ρ' => ∀ σ', Rep K B F O H σ' ρ' → Q σ' H
structure DG (X : Cx) (tg : Expr) (g : DTG) : Prop where
  mono : ∀ {d ρ Q Q'}, (∀ ρ', Q ρ' → Q' ρ') → g d ρ Q → g d ρ Q'
  pg : PG X tg (lG X.K g)
structure DGs (X : Cx) (tgs : List Expr) (g : DTGs) : Prop where
  mono : ∀ {d ρ Q Q'}, (∀ ρ', Q ρ' → Q' ρ') → g d ρ Q → g d ρ Q'
  pg : PGs X tgs (lGs X.K g)
theorem PG.imp {e : Expr} {t t' : TG} (h : PG X e t) (i : ∀ v σ H Q, t' v σ H Q → t v σ H Q) : PG X e t' := fun pins s σ H v u Q I r q => h pins s σ H v u Q I r (i _ _ _ _ q)
theorem PGs.imp {e : List Expr} {t t' : TGs} (h : PGs X e t) (i : ∀ v σ H Q, t' v σ H Q → t v σ H Q) : PGs X e t' := fun pins s σ H v u Q I r q => h pins s σ H v u Q I r (i _ _ _ _ q)
def dgName (i : Nat) : DTG := fun d ρ Q => Q (ρ.set i (some (.is d)))
theorem dg_name (i : Nat) {x : Str} (hN : X.N.Nodup) (hi : X.N[i]? = some x := by rfl) (hx : Loc X.env.scope x := by first | exact Or.inl rfl | exact Or.inr rfl)
    (hf : X.fn x = true ∨ X.env.scope.names.lookup x = some .local := by first | exact .inl rfl | exact .inr rfl | assumption) : DG X (.Name x pos) (dgName i) where
  mono := fun hq h => hq _ h
  pg := (pg_name hN hi hx hf).imp fun v σ H Q ⟨B, F, O, ρ, d, R, r, h⟩ => h _ (R.set i r)
def dgNil : DTGs := fun ds ρ Q => match ds with
  | [] => Q ρ
  | _ => False
def dgCons (g : DTG) (gs : DTGs) : DTGs := fun ds ρ Q => match ds with
  | d :: r => g d ρ fun ρ' => gs r ρ' Q
  | [] => False
theorem dgs_nil : DGs X [] dgNil where
  mono := fun hq h => by
    unfold dgNil at h ⊢
    split at h
    · exact hq _ h
    · exact h.elim
  pg := pgs_nil.imp fun vs σ H Q ⟨B, F, O, ρ, ds, R, r, h⟩ => by
    unfold dgNil at h
    split at h
    · exact ⟨rpl_nil.mp r, h σ R⟩
    · exact h.elim
theorem dgs_cons {g : DTG} {gs : DTGs} (h1 : DG X e g) (h2 : DGs X es gs) (hs : (assignEach (e :: es) X.env).map (·.2) = assign e X.env :: (assignEach es X.env).map (·.2) := by rfl) : DGs X (e :: es) (dgCons g gs) where
  mono := fun hq h => by
    unfold dgCons at h ⊢
    split at h
    · exact h1.mono (fun ρ' q => h2.mono hq q) h
    · exact h.elim
  pg := (pgs_cons h1.pg h2.pg hs).imp fun vs σ H Q ⟨B, F, O, ρ, ds, R, r, h⟩ => by
    unfold dgCons at h
    split at h
    · obtain ⟨v, vr, rfl, r1, r2⟩ := rpl_cons.mp r
      exact ⟨v, vr, rfl, B, F, O, ρ, _, R, r1, h1.mono (fun ρ' q σ' R' => ⟨B, F, O, ρ', _, R', r2, q⟩) h⟩
    · exact h.elim
def dgTup (n : Nat) (gs : DTGs) : DTG := fun d ρ Q => match d with
  | .tup ds => ds.length = n ∧ gs ds ρ Q
  | _ => False
theorem dg_tup {k : Nat} {gs : DTGs} {n : Nat} (hc : X.calm = true) (h : DGs X es gs) (hn : (assignEach es X.env).length = n := by rfl) (hst : (assignEach es X.env).findIdx? (·.1) = none := by rfl) : DG X (.Tuple es k pos) (dgTup n gs) where
  mono := fun hq z => by
    unfold dgTup at z ⊢
    split at z
    · exact ⟨z.1, h.mono hq z.2⟩
    · exact z.elim
  pg := (pg_tup hc h.pg hn hst).imp fun v σ H Q ⟨B, F, O, ρ, d, R, r, z⟩ => by
    unfold dgTup at z
    split at z
    · obtain ⟨a, xs, rfl, hs, hl⟩ := rp_tup.mp r
      exact ⟨a, xs, rfl, mask_le.seqT hs, by rw [hl.len]; exact z.1, B, F, O, ρ, _, R, hl, z.2⟩
    · exact z.elim
def dAsg (te : DTE) (g : DTG) : DTS := fun D ρ => te ρ fun d => g d ρ D.nx
theorem ds_asg {tg : Expr} {g : DTG} (he : DE X e te) (hg : DG X tg g) (hs : swapsWithSole [tg] e pos.line X.env = pure false := by rfl) (hw : swappedStores [tg] e X.env = pure none := by rfl)
    (h1 : (assignEach [tg] X.env).map (·.2) = [assign tg X.env] := by rfl) : DS X (.Assign [tg] e pos) (dAsg te g) where
  mono := fun hd h => he.mono (fun _ h => hg.mono (fun _ h => hd.nx _ h) h) h
  ps := (ps_asg he.pe hg.pg hs hw h1).imp fun D σ H ⟨B, F, O, ρ, R, h⟩ => ⟨B, F, O, ρ, R, he.mono (fun d q v H1 s1 r1 => ⟨B, F, O, ρ, d, R.same s1, r1, hg.mono (fun ρ' q σ' R' => q O σ' H1 R') q⟩) h⟩

def dWhile (c : DTT) (tb : DTS) : DTS := fun D ρ => ∃ W : Nat → DEnv → Prop, (∃ m, W m ρ) ∧ ∀ m ρ, W m ρ →
  c ρ fun k => if k = true then tb { D with nx := fun ρ' => ∃ m', m' < m ∧ W m' ρ', ct := fun ρ' => ∃ m', m' < m ∧ W m' ρ', bk := D.nx } ρ else D.nx ρ
theorem ds_while {body : List Stmt} (hp : PassesOwn (model X.prog X.w) X.A X.env X.xe) (hc : DT X c tA) (hb : DSs X body t) : DS X (.While c body [] pos) (dWhile tA t) where
  mono := fun {ρ D D'} hd ⟨W, h0, h⟩ => ⟨W, h0, fun m ρ w => hc.mono (fun k h => by
    cases k with
    | true => exact hb.mono (D := { D with nx := fun ρ' => ∃ m', m' < m ∧ W m' ρ', ct := fun ρ' => ∃ m', m' < m ∧ W m' ρ', bk := D.nx }) ⟨fun _ q => q, hd.rt, hd.nx, fun _ q => q⟩ h
    | false => exact hd.nx _ h) (h m ρ w)⟩
  ps := (ps_while hp hc.pt hb.ps).imp fun D σ H ⟨B, F, O, ρ, R, W, ⟨m0, w0⟩, h⟩ => by
    refine ⟨fun m σ H => ∃ O ρ, Rep X.K B F O H σ ρ ∧ W m ρ, ⟨m0, O, ρ, R, w0⟩, ?_⟩
    rintro m σ H ⟨O, ρ, R, w⟩
    refine ⟨B, F, O, ρ, R, hc.mono (fun k h H1 s1 => ?_) (h m ρ w)⟩
    cases k with
    | true =>
      refine ⟨fun σ' H' => ∃ m', m' < m ∧ ∃ O ρ, Rep X.K B F O H' σ' ρ ∧ W m' ρ, fun σ' H' ⟨m', l, q⟩ => ⟨m', l, q⟩, B, F, O, ρ, R.same s1, hb.mono (D := { lD X.K B F D with nx := fun ρ' => ∃ m', m' < m ∧ W m' ρ', ct := fun ρ' => ∃ m', m' < m ∧ W m' ρ', bk := (lD X.K B F D).nx }) ⟨?_, fun _ q => q, fun _ q => q, ?_⟩ h⟩
      · rintro ρ' ⟨m', l, w'⟩ O' σ' H' R'
        exact ⟨m', l, O', ρ', R', w'⟩
      · rintro ρ' ⟨m', l, w'⟩ O' σ' H' R'
        exact ⟨m', l, O', ρ', R', w'⟩
    | false => exact h O σ H1 (R.same s1)

def ItD (K : PySem.W.Frag) (M : Hp) (J : It) (items : List Dt) : Prop := ∀ H, Same M H →
  (∀ (k : Nat) d, items[k]? = some d → J.go k H ∧ ∀ x H', J.yld k H x H' → H' = H ∧ Rp K M d x) ∧ J.stop items.length H
abbrev DTI := DEnv → (List Dt → Prop) → Prop
def lI (K : PySem.W.Frag) (ti : DTI) : TI := fun σ H R => ∃ B F O ρ, Rep K B F O H σ ρ ∧ ti ρ fun items => ∀ J H', Same H H' → ItD K (mask (F ++ O) H') J items → R J H'
structure DI (X : Cx) (tg iter : Expr) (ti : DTI) : Prop where
  mono : ∀ {ρ Q Q'}, (∀ d, Q d → Q' d) → ti ρ Q → ti ρ Q'
  pi : PI X tg iter (lI X.K ti)
theorem PI.imp {tg e : Expr} {t t' : TI} (h : PI X tg e t) (i : ∀ σ H Q, t' σ H Q → t σ H Q) : PI X tg e t' := fun pins s σ H R I q => h pins s σ H R I (i _ _ _ q)
def dFor (ti : DTI) (g : DTG) (tb : DTS) : DTS := fun D ρ => ti ρ fun items => ∃ W : Nat → DEnv → Prop, W 0 ρ ∧
  (∀ (k : Nat) d ρ', items[k]? = some d → W k ρ' → g d ρ' fun ρ2 => tb { D with nx := W (k + 1), ct := W (k + 1), bk := D.nx } ρ2) ∧ ∀ ρ', W items.length ρ' → D.nx ρ'
theorem Rep.rebase {K : PySem.W.Frag} {B : Hp} {F O : List Addr} {H : Hp} {σ : St} {ρ : DEnv} (r : Rep K B F O H σ ρ) : Rep K (mask O H) F O H σ ρ :=
  ⟨r.len, mask_le, fun _ h => mask_in h, r.th, r.is, r.own, r.inj⟩
theorem Rep.unbase {K : PySem.W.Frag} {B B' : Hp} {F O O' : List Addr} {H H' : Hp} {σ σ' : St} {ρ ρ' : DEnv} (r : Rep K B F O H σ ρ) (r' : Rep K (mask O H) F O' H' σ' ρ') : Rep K B F O' H' σ' ρ' := by
  have s : Same B (mask O H) := fun a o e => by
    rw [mask_out]
    · exact r.base a o e
    · intro z; rw [r.fr a z] at e; cases e
  refine ⟨r'.len, s.trans r'.base, fun a h => ?_, r'.th, r'.is, r'.own, r'.inj⟩
  cases q : B a with
  | none => rfl
  | some o => have := s a o q; rw [r'.fr a h] at this; cases this
theorem Rep.sub {K : PySem.W.Frag} {B : Hp} {F O : List Addr} {H : Hp} {σ : St} {ρ : DEnv} (r : Rep K B F O H σ ρ) : Same B (mask O H) := fun a o e => by
  rw [mask_out]
  · exact r.base a o e
  · intro z; rw [r.fr a z] at e; cases e
theorem mask_mask {F O : List Addr} {H : Hp} : mask F (mask O H) = mask (F ++ O) H := by
  funext a
  by_cases h1 : a ∈ F
  · rw [mask_in h1, mask_in (List.mem_append_left _ h1)]
  · rw [mask_out h1]
    by_cases h2 : a ∈ O
    · rw [mask_in h2, mask_in (List.mem_append_right _ h2)]
    · rw [mask_out h2, mask_out fun z => (List.mem_append.mp z).elim h1 h2]
theorem ds_for {tg iter : Expr} {body : List Stmt} {ti : DTI} {g : DTG} (hp : PassesOwn (model X.prog X.w) X.A X.env X.xe) (hc : X.calm = true) (hi : DI X tg iter ti) (hg : DG X tg g) (hb : DSs X body t)
    (hs : ∀ x, foldedSetIterable iter X.env x = pure x := by intro _; rfl) : DS X (.For tg iter body [] pos) (dFor ti g t) where
  mono := fun {ρ D D'} hd h => hi.mono (fun items ⟨W, h0, h, he⟩ => ⟨W, h0, fun k d ρ' e w => hg.mono (fun ρ2 q => hb.mono (D := { D with nx := W (k + 1), ct := W (k + 1), bk := D.nx }) ⟨fun _ q => q, hd.rt, hd.nx, fun _ q => q⟩ q) (h k d ρ' e w), fun ρ' w => hd.nx _ (he ρ' w)⟩) h
  ps := (ps_for hp hc hi.pi hg.pg hb.ps hs).imp fun D σ H ⟨B, F, O, ρ, R, h⟩ => by
    refine ⟨B, F, O, ρ, R, hi.mono (fun items z J H1 s1 it => ?_) h⟩
    obtain ⟨W, h0, h, he⟩ := z
    have R1 := R.same s1
    refine ⟨fun i m σ H => m + i = items.length ∧ ∃ O' ρ', Rep X.K (mask O H1) F O' H σ ρ' ∧ W i ρ', ⟨items.length, by omega, O, ρ, R1.rebase, h0⟩, ?_⟩
    rintro i m σ2 H2 ⟨hm, O', ρ', R2, w⟩
    have sb : Same (mask (F ++ O) H1) H2 := fun a o e => R2.base a o (by
      obtain ⟨q, e⟩ := mask_some e
      rw [mask_out fun z => q (List.mem_append_right _ z)]; exact e)
    obtain ⟨go, stop⟩ := it H2 sb
    by_cases hlt : i < items.length
    · refine .inr ⟨(go i items[i] (by simp [hlt])).1, fun σ' H' => ∃ O' ρ', Rep X.K (mask O H1) F O' H' σ' ρ' ∧ W (i + 1) ρ', fun σ' H' q => ⟨m - 1, by omega, by omega, q⟩, fun x H3 y => ?_⟩
      obtain ⟨e, r⟩ := (go i items[i] (by simp [hlt])).2 x H3 y
      subst e
      have r' : Rp X.K (mask (F ++ O') H3) items[i] x := r.mono (by rw [← mask_mask]; exact R2.below)
      refine ⟨_, F, O', ρ', _, R2, r', hg.mono (fun ρ2 q σ3 R3 => ⟨_, F, O', ρ2, R3, hb.mono (D := { lD X.K B F D with nx := W (i + 1), ct := W (i + 1), bk := (lD X.K B F D).nx }) ⟨?_, ?_, ?_, ?_⟩ q⟩) (h i _ ρ' (by simp [hlt]) w)⟩
      · exact fun ρ4 w4 O4 σ4 H4 R4 => ⟨O4, ρ4, R4, w4⟩
      · exact fun d q v H4 s4 r4 => q v H4 (R1.sub.trans s4) r4
      · exact fun ρ4 q O4 σ4 H4 R4 => q O4 σ4 H4 (R1.unbase (B' := B) R4)
      · exact fun ρ4 w4 O4 σ4 H4 R4 => ⟨O4, ρ4, R4, w4⟩
    · have e : i = items.length := by omega
      subst e
      exact .inl ⟨stop, he ρ' w O' σ2 H2 (R1.unbase (B' := B) R2)⟩
def diSeq (te : DTE) : DTI := fun ρ Q => te ρ fun d => match d with
  | .lst ds => Q ds
  | _ => False
def diTup (te : DTE) : DTI := fun ρ Q => te ρ fun d => match d with
  | .tup ds => Q ds
  | _ => False
theorem di_lst {tg : Expr} (h : DE X e te) : DI X tg e (diSeq te) where
  mono := fun hq z => h.mono (fun d z => by
    split at z
    · exact hq _ z
    · exact z.elim) z
  pi := (pi_list h.pe).imp fun σ H Q ⟨B, F, O, ρ, R, z⟩ => ⟨B, F, O, ρ, R, h.mono (fun d z v H1 s1 r1 => by
    split at z
    · obtain ⟨a, xs, rfl, hs, hl⟩ := rp_lstE r1
      refine ⟨a, rfl, ⟨xs, mask_le.seq hs⟩, z _ H1 s1 fun H2 s2 => ⟨fun k d e => ?_, xs, s2.seq hs, by rw [hl.len]; exact Nat.le_refl _⟩⟩
      obtain ⟨x, e1, e2⟩ := hl.get e
      refine ⟨⟨xs, x, s2.seq hs, e1⟩, fun y H3 ⟨e3, e4⟩ => ⟨e3, ?_⟩⟩
      have e5 := e4 xs (s2.seq hs)
      rw [e1] at e5; cases e5; exact e2
    · exact z.elim) z⟩
theorem di_tup {tg : Expr} (h : DE X e te) : DI X tg e (diTup te) where
  mono := fun hq z => h.mono (fun d z => by
    split at z
    · exact hq _ z
    · exact z.elim) z
  pi := (pi_tup h.pe).imp fun σ H Q ⟨B, F, O, ρ, R, z⟩ => ⟨B, F, O, ρ, R, h.mono (fun d z v H1 s1 r1 => by
    split at z
    · obtain ⟨a, xs, rfl, hs, hl⟩ := rp_tup.mp r1
      refine ⟨a, rfl, ⟨xs, mask_le.seqT hs⟩, z _ H1 s1 fun H2 s2 => ⟨fun k d e => ?_, xs, s2.seqT hs, by rw [hl.len]; exact Nat.le_refl _⟩⟩
      obtain ⟨x, e1, e2⟩ := hl.get e
      refine ⟨⟨xs, x, s2.seqT hs, e1⟩, fun y H3 ⟨e3, e4⟩ => ⟨e3, ?_⟩⟩
      have e5 := e4 xs (s2.seqT hs)
      rw [e1] at e5; cases e5; exact e2
    · exact z.elim) z⟩
def ups (lo : Int) (n : Nat) : List Dt := (List.range n).map fun i => .int (lo + (i : Nat))
theorem ups_len {lo : Int} {n : Nat} : (ups lo n).length = n := by simp [ups]
theorem ups_get {lo : Int} {n k : Nat} {d : Dt} (h : (ups lo n)[k]? = some d) : k < n ∧ d = .int (lo + (k : Nat)) := by
  unfold ups at h
  rw [List.getElem?_map] at h
  by_cases hk : k < n
  · rw [List.getElem?_range hk] at h
    exact ⟨hk, (Option.some.inj h).symm⟩
  · rw [List.getElem?_eq_none (by simpa using hk)] at h; cases h
theorem itd_range {K : PySem.W.Frag} {M : Hp} {lo : Int} {n : Nat} : ItD K M (Itr lo n) (ups lo n) := fun H _ => by
  refine ⟨fun k d e => ?_, ?_⟩
  · obtain ⟨hk, rfl⟩ := ups_get e
    exact ⟨hk, fun x H' y => ⟨y.1, rp_int.mpr y.2⟩⟩
  · rw [ups_len]; exact Nat.le_refl n
def diRng1 (tl : DTA) : DTI := fun ρ Q => tl ρ fun ds => match ds with
  | [.int j] => (-(2 ^ 62) ≤ j ∧ j < 2 ^ 62) ∧ Q (ups 0 j.toNat)
  | _ => False
def diRng2 (tl : DTA) : DTI := fun ρ Q => tl ρ fun ds => match ds with
  | [.int i, .int j] => (-(2 ^ 62) ≤ i ∧ i < 2 ^ 62 ∧ -(2 ^ 62) ≤ j ∧ j < 2 ^ 62) ∧ Q (ups i (j - i).toNat)
  | _ => False
theorem di_rng1 {tg : Expr} {p : Pos} (hg : Gl X "range") (hm : X.mg "range" = none) (ha : DA X [a] tl) (hs : starEach [a] X.env = [(false, eval a X.env)] := by rfl) : DI X tg (.Call (.Name "range" p) [a] [] pos) (diRng1 tl) where
  mono := fun hq z => ha.mono (fun d z => by
    split at z
    · exact ⟨z.1, hq _ z.2⟩
    · exact z.elim) z
  pi := (pi_range1 hg hm ha.pa hs).imp fun σ H Q ⟨B, F, O, ρ, R, z⟩ => ⟨B, F, O, ρ, R, ha.mono (fun d z vs H1 s1 r1 => by
    split at z
    · obtain ⟨v, r, rfl, r2, r3⟩ := rpl_cons.mp r1
      rw [rpl_nil.mp r3, rp_int.mp r2]
      exact ⟨_, rfl, z.1.1, z.1.2, z.2 _ H1 s1 itd_range⟩
    · exact z.elim) z⟩
end

def dstart (N : List Str) (ds : List Dt) : DEnv := ds.map (fun d => some (.is d)) ++ List.replicate (N.length - ds.length) none
theorem rep_start {K : PySem.W.Frag} {F : List Addr} {H : Hp} {N : List Str} {ds : List Dt} {vs : List V} (hF : ∀ a ∈ F, H a ≠ none) (r : RpL K (mask F H) ds vs) : Rep K H F [] H (start N vs) (dstart N ds) := by
  have hl := r.len
  have noown : ∀ (i : Nat) es, (dstart N ds)[i]? = some (some (.own es)) → False := fun i es e => by
    unfold dstart at e
    by_cases hi : i < ds.length
    · rw [List.getElem?_append_left (by simpa using hi), List.getElem?_map] at e
      cases q : ds[i]? with
      | none => rw [q] at e; cases e
      | some d => rw [q] at e; cases e
    · rw [List.getElem?_append_right (by simpa using hi), List.getElem?_replicate] at e
      split at e <;> cases e
  refine ⟨?_, Same.refl H, fun a h => (nomatch h), fun a h => hF a (by simpa using h), fun i d e => ?_, fun i es e => (noown i es e).elim, fun i j es es' a h1 => (noown i es h1).elim⟩
  · unfold start dstart; simp [hl]
  · unfold dstart at e
    by_cases hi : i < ds.length
    · rw [List.getElem?_append_left (by simpa using hi), List.getElem?_map] at e
      cases q : ds[i]? with
      | none => rw [q] at e; cases e
      | some d' =>
        rw [q] at e; cases e
        obtain ⟨v, e1, e2⟩ := r.get q
        refine ⟨v, ?_, by rw [List.append_nil]; exact e2⟩
        unfold start
        rw [List.getElem?_append_left (by simp; omega), List.getElem?_map, e1]; rfl
    · rw [List.getElem?_append_right (by simpa using hi), List.getElem?_replicate] at e
      split at e <;> cases e
section
variable {P : Program} {w : World} {K : PySem.W.Frag} {mg : Str → Option Value} {base : Heap}
theorem Fun.okD {x qual : Str} {st : Stmt} {f : Addr} {fd : FuncData} {N ps : List Str} {k : Nat} {sp : DSp} (F : Fun K x qual st f fd) (S : FnScope N ps (defScope st)) (len : ∀ ds Q, sp ds Q → ds.length = ps.length)
    (hbody : ∀ (cdv : Value) (A : Around) (outer : List Env) (s : Shared) (H : Hp) (E : XK), Room k (A.deeper (envOfC qual (defScope st) s.heap.objs.size f cdv)) →
      ∃ t, DSs (cxOf CX0 P w K mg base N qual (defScope st) f cdv A outer s H E).nox (defBody st) t ∧ ∀ ds Q, sp ds Q → t { nx := fun _ => Q .non, rt := Q } (dstart N ds)) : FnOk P w K mg base CX0 (k + 1) f fd ps (lSp K sp) := by
  refine F.ok S (fun vs H Q E ⟨F, ds, _, r, h⟩ => by rw [r.len]; exact len _ _ h) fun cdv A outer s H vs Q E hr ⟨F', ds, hF, r, h⟩ => ?_
  obtain ⟨t, T, q⟩ := hbody cdv A outer s H E hr
  refine ⟨_, T.ps, H, F', [], dstart N ds, rep_start hF r, T.mono (D := { nx := fun _ => ∀ v H', Same H H' → Rp K (mask F' H') .non v → Q v H', rt := fun d => ∀ v H', Same H H' → Rp K (mask F' H') d v → Q v H' }) ⟨?_, ?_, fun _ z => False.elim z, fun _ z => False.elim z⟩ (q ds _ h)⟩
  · exact fun ρ z O' σ' H' R' => z .non H' R'.base (rp_non.mpr rfl)
  · exact fun d z v H' s' r' => z v H' s' r'
end
end L2

namespace L2
open PySem PySem.Spec PyProof.Rows PySem.SeqAt

structure FnT (K : PySem.W.Frag) (mg : Str → Option Value) (x : Str) (st : Stmt) (ps : List Str) (f : Addr) (fd : FuncData) : Prop where
  fn : Fun K x x st f fd
  mg : mg x = some (.ref f)
  bd : Binds K fd ps []
def Pm (P : Program) (w : World) (K : PySem.W.Frag) (mg : Str → Option Value) (base : Heap) (k : Nat) (x : Str) (st : Stmt) (ps : List Str) (sp : DSp) : Prop :=
  ∃ f fd, FnT K mg x st ps f fd ∧ FnOk P w K mg base CX0 k f fd ps (lSp K sp)
theorem Fun.uniq {K : PySem.W.Frag} {x q : Str} {st : Stmt} {f : Addr} {fd fd' : FuncData} (a : Fun K x q st f fd) (b : Fun K x q st f fd') : fd = fd' := by
  obtain ⟨oc, od, kV, doc, pm, an, cdv, ct, osl, _, h1, _⟩ := a.ex
  obtain ⟨oc', od', kV', doc', pm', an', cdv', ct', osl', _, h2, _⟩ := b.ex
  rw [h1] at h2
  injection h2 with h2
  injection h2 with _ _ h2 _
  injection h2
def spec {τ : Type} (args : τ → List Dt) (pre : τ → Prop) (post : τ → Dt → Prop) : DSp := fun ds Q => ∃ p, ds = args p ∧ pre p ∧ ∀ d, post p d → Q d
theorem spec_mono {τ : Type} {args : τ → List Dt} {pre : τ → Prop} {post : τ → Dt → Prop} : MonoSp (spec args pre post) := fun _ _ _ hq ⟨p, e, h, q⟩ => ⟨p, e, h, fun d z => hq _ (q d z)⟩
abbrev specF {τ : Type} (args : τ → List Dt) (pre : τ → Prop) (val : τ → Dt) : DSp := spec args pre fun p d => d = val p
abbrev T2 (a b : Int) : Dt := .tup [.int a, .int b]
abbrev T3 (a b c : Int) : Dt := .tup [.int a, .int b, .int c]
abbrev T4 (a b c d : Int) : Dt := .tup [.int a, .int b, .int c, .int d]
def spLaw : DSp := spec (fun ns : List Int => [.lst (ns.map Dt.int)]) (fun ns => ns.length ≤ 63) fun _ d => d = .bl true
theorem mask_nil {H : Hp} : mask [] H = H := by funext a; exact mask_out (by simp)
theorem law_start {K : PySem.W.Frag} {H : Hp} {a : Addr} {ns : List Int} {E : XK} (hl : ns.length ≤ 63) (hS : SqL K H a (ns.map V.int)) : lSp K spLaw [.ref a] H (fun v _ => v = .bl true) E :=
  ⟨[], [.lst (ns.map Dt.int)], fun _ h => (nomatch h), RpL.cons (rp_ints (by rw [mask_nil]; exact hS) (RpL.ints ns)) RpL.nil, ns, rfl, hl, fun d e v H' s r => by subst e; exact rp_bl.mp r⟩

section
variable {X : Cx} {a b c e : Expr} {es : List Expr} {ta tb tc te : DTE} {tA tB : DTT} {tl : DTA} {pos : Pos}
theorem de_callP {k : Nat} {ps : List Str} {sp : DSp} {x : Str} {stx : Stmt} {p : Pos} (m : MonoSp sp) (G : Pm X.prog X.w X.K X.mg X.base k x stx ps sp) (hr : Room k X.A) (hg : Gl X x)
    (ha : DA X (e :: es) tl) (hdb : (x == ("__debug__" : Str)) = false := by decide)
    (he : starEach (e :: es) X.env = (false, eval e X.env) :: starEach es X.env := by rfl) (hpl : (backTo pos (starEach es X.env)).any (·.1) = false := by rfl) : DE X (.Call (.Name x p) (e :: es) [] pos) (dCall sp tl) := by
  obtain ⟨f, fd, F, G⟩ := G
  exact de_call (CX := CX0) m G hr hg F.mg F.fn.kp F.bd ha hdb he hpl

theorem ds_set (i : Nat) {x : Str} {pos' : Pos} (hN : X.N.Nodup) (he : DE X e te) (hi : X.N[i]? = some x := by rfl) (hx : Loc X.env.scope x := by first | exact Or.inl rfl | exact Or.inr rfl) (hs : swapsWith e (some (.Name x pos')) pos.line X.env = pure false := by rfl)
    (hf : X.fn x = true ∨ X.env.scope.names.lookup x = some .local := by first | exact .inl rfl | exact .inr rfl | assumption) : DS X (.Assign [.Name x pos'] e pos) (dAsg te (dgName i)) where
  mono := fun hd h => he.mono (fun _ h => hd.nx _ h) h
  ps := (ps_set hN hi hx he.pe hs hf).imp fun D σ H ⟨B, F, O, ρ, R, h⟩ => ⟨B, F, O, ρ, R, he.mono (fun d q v H1 s1 r1 => q O _ H1 ((R.same s1).set i r1)) h⟩
def dPar2 (i j : Nat) (tl : DTA) : DTS := fun D ρ => tl ρ fun ds => match ds with
  | [d, e] => D.nx ((ρ.set i (some (.is d))).set j (some (.is e)))
  | _ => False
mutual
def Dt.py : Dt → PyData
  | .non => .none
  | .bl b => .bool b
  | .int i => .int i
  | .str x => .str x
  | .tup ds => .tuple (Dt.pys ds)
  | .lst ds => .list (Dt.pys ds)
  | .fn _ => .dict []
  | .exc _ _ _ => .dict []
  | .obj _ _ _ => .dict []
def Dt.pys : List Dt → List PyData
  | [] => []
  | d :: ds => d.py :: Dt.pys ds
end
mutual
theorem reads_of {X : Cx} {pins : List (Addr × Obj)} {σ : St} {H : Hp} {s : Shared} (I : Inv X pins σ H s) : ∀ {d : Dt} {v : V} {u : Value}, d.py.canLay0 = true → Rp X.K H d v → RelV v u → ∃ as, Reads s.heap u d.py as
  | .non, v, u, _, h, r => by rw [rp_non.mp h] at r; cases (show u = .none from r); exact ⟨_, by rw [Dt.py]; exact .none⟩
  | .bl b, v, u, _, h, r => by rw [rp_bl.mp h] at r; cases (show u = .bool b from r); exact ⟨_, by rw [Dt.py]; exact .bool b⟩
  | .int i, v, u, _, h, r => by rw [rp_int.mp h] at r; obtain ⟨t, rfl⟩ := r; exact ⟨_, by rw [Dt.py]; exact .int i t⟩
  | .str x, v, u, _, h, r => by rw [rp_str.mp h] at r; obtain ⟨t, rfl⟩ := r; exact ⟨_, by rw [Dt.py]; exact .str x t⟩
  | .fn a, v, u, c, h, r => by rw [Dt.py] at c; exact (nomatch c)
  | .exc _ _ _, v, u, c, h, r => by rw [Dt.py] at c; exact (nomatch c)
  | .obj _ _ _, v, u, c, h, r => by rw [Dt.py] at c; exact (nomatch c)
  | .tup ds, v, u, c, h, r => by
    obtain ⟨a, xs, rfl, hs, hl⟩ := rp_tup.mp h
    cases (show u = .ref a from r)
    obtain ⟨its, rv, ⟨o, h1, h2, n, h3⟩, _⟩ := I.tuple hs
    rw [Dt.py] at c
    obtain ⟨as, ra⟩ := readsL_of I (ds := ds) (by simpa [PyData.canLay0] using c) hl rv
    exact ⟨_, by rw [Dt.py]; exact .tuple h1 h2 h3 (by simpa using ra)⟩
  | .lst ds, v, u, c, h, r => by
    obtain ⟨a, xs, rfl, hs, hl⟩ := rp_lstE h
    cases (show u = .ref a from r)
    obtain ⟨its, rv, ⟨o, n, h1, h2, _, h3⟩, _⟩ := I.list hs
    rw [Dt.py] at c
    obtain ⟨as, ra⟩ := readsL_of I (ds := ds) (by simpa [PyData.canLay0] using c) hl rv
    exact ⟨_, by rw [Dt.py]; exact .list h1 h2 h3 (by simpa using ra)⟩
theorem readsL_of {X : Cx} {pins : List (Addr × Obj)} {σ : St} {H : Hp} {s : Shared} (I : Inv X pins σ H s) : ∀ {ds : List Dt} {vs : List V} {us : List Value}, PyData.canLayAll0 (Dt.pys ds) = true → RpL X.K H ds vs → Vals vs us → ∃ as, ReadsAll s.heap us (Dt.pys ds) as
  | [], vs, us, _, h, r => by rw [rpl_nil.mp h] at r; cases r; exact ⟨_, by rw [Dt.pys]; exact .nil⟩
  | d :: ds, vs, us, c, h, r => by
    obtain ⟨v, vr, rfl, h1, h2⟩ := rpl_cons.mp h
    rw [Dt.pys] at c
    have c' : d.py.canLay0 = true ∧ PyData.canLayAll0 (Dt.pys ds) = true := by simpa [PyData.canLayAll0] using c
    cases r with
    | cons r1 r2 =>
      obtain ⟨as, ra⟩ := reads_of I c'.1 h1 r1
      obtain ⟨bs, rb⟩ := readsL_of I c'.2 h2 r2
      exact ⟨_, by rw [Dt.pys]; exact .cons ra rb⟩
end
mutual
def Dt.eq : Dt → Dt → Bool
  | .non, .non => true
  | .bl a, .bl b => a == b
  | .bl a, .int j => (if a then 1 else 0) == j
  | .int i, .bl b => i == (if b then 1 else 0)
  | .int i, .int j => decide (i = j)
  | .str x, .str y => x == y
  | .tup xs, .tup ys => Dt.eqs xs ys
  | .lst xs, .lst ys => Dt.eqs xs ys
  | _, _ => false
def Dt.eqs : List Dt → List Dt → Bool
  | [], [] => true
  | x :: xs, y :: ys => Dt.eq x y && Dt.eqs xs ys
  | _, _ => false
end
mutual
def Dt.flat : Nat → Dt → Bool
  | _, .fn _ => false
  | _, .exc _ _ _ => false
  | _, .obj _ _ _ => false
  | _, .str x => (PyData.str x).canLay0
  | 0, .tup _ => false
  | 0, .lst _ => false
  | n + 1, .tup ds => Dt.flats n ds
  | n + 1, .lst ds => Dt.flats n ds
  | _, _ => true
def Dt.flats : Nat → List Dt → Bool
  | _, [] => true
  | n, d :: ds => Dt.flat n d && Dt.flats n ds
end
mutual
theorem flat_lay : ∀ (d : Dt) (n : Nat), d.flat n = true → d.py.canLay0 = true ∧ d.py.depth ≤ n
  | .non, n, h => by rw [Dt.py]; exact ⟨rfl, Nat.zero_le _⟩
  | .bl _, n, h => by rw [Dt.py]; exact ⟨rfl, Nat.zero_le _⟩
  | .int _, n, h => by rw [Dt.py]; exact ⟨rfl, Nat.zero_le _⟩
  | .str _, n, h => by rw [Dt.py]; exact ⟨by simpa [Dt.flat] using h, Nat.zero_le _⟩
  | .fn _, n, h => by simp [Dt.flat] at h
  | .exc _ _ _, n, h => by simp [Dt.flat] at h
  | .obj _ _ _, n, h => by simp [Dt.flat] at h
  | .tup ds, 0, h => by simp [Dt.flat] at h
  | .lst ds, 0, h => by simp [Dt.flat] at h
  | .tup ds, n + 1, h => by
    have := flats_lay ds n (by simpa [Dt.flat] using h)
    rw [Dt.py]
    exact ⟨by simpa [PyData.canLay0] using this.1, by simpa [PyData.depth] using this.2⟩
  | .lst ds, n + 1, h => by
    have := flats_lay ds n (by simpa [Dt.flat] using h)
    rw [Dt.py]
    exact ⟨by simpa [PyData.canLay0] using this.1, by simpa [PyData.depth] using this.2⟩
theorem flats_lay : ∀ (ds : List Dt) (n : Nat), Dt.flats n ds = true → PyData.canLayAll0 (Dt.pys ds) = true ∧ PyData.depthAll (Dt.pys ds) ≤ n
  | [], n, h => by rw [Dt.pys]; exact ⟨rfl, Nat.zero_le _⟩
  | d :: ds, n, h => by
    have h' : d.flat n = true ∧ Dt.flats n ds = true := by simpa [Dt.flats] using h
    have h1 := flat_lay d n h'.1
    have h2 := flats_lay ds n h'.2
    rw [Dt.pys]
    exact ⟨by simp [PyData.canLayAll0, h1.1, h2.1], by simp only [PyData.depthAll]; omega⟩
end
mutual
theorem eq_eqv : ∀ (a b : Dt), a.py.canLay0 = true → b.py.canLay0 = true → PyData.eqv a.py b.py = a.eq b
  | .fn _, b, h, _ => by rw [Dt.py] at h; exact (nomatch h)
  | .exc _ _ _, b, h, _ => by rw [Dt.py] at h; exact (nomatch h)
  | .obj _ _ _, b, h, _ => by rw [Dt.py] at h; exact (nomatch h)
  | a, .fn _, _, h => by rw [Dt.py] at h; exact (nomatch h)
  | a, .exc _ _ _, _, h => by rw [Dt.py] at h; exact (nomatch h)
  | a, .obj _ _ _, _, h => by rw [Dt.py] at h; exact (nomatch h)
  | .non, .non, _, _ => by simp [Dt.py, Dt.eq, PyData.eqv]
  | .non, .bl _, _, _ => by simp [Dt.py, Dt.eq, PyData.eqv]
  | .non, .int _, _, _ => by simp [Dt.py, Dt.eq, PyData.eqv]
  | .non, .str _, _, _ => by simp [Dt.py, Dt.eq, PyData.eqv]
  | .non, .tup _, _, _ => by simp [Dt.py, Dt.eq, PyData.eqv]
  | .non, .lst _, _, _ => by simp [Dt.py, Dt.eq, PyData.eqv]
  | .bl _, .non, _, _ => by simp [Dt.py, Dt.eq, PyData.eqv]
  | .bl _, .bl _, _, _ => by simp [Dt.py, Dt.eq, PyData.eqv]
  | .bl _, .int _, _, _ => by simp [Dt.py, Dt.eq, PyData.eqv]
  | .bl _, .str _, _, _ => by simp [Dt.py, Dt.eq, PyData.eqv]
  | .bl _, .tup _, _, _ => by simp [Dt.py, Dt.eq, PyData.eqv]
  | .bl _, .lst _, _, _ => by simp [Dt.py, Dt.eq, PyData.eqv]
  | .int _, .non, _, _ => by simp [Dt.py, Dt.eq, PyData.eqv]
  | .int _, .bl _, _, _ => by simp [Dt.py, Dt.eq, PyData.eqv]
  | .int i, .int j, _, _ => by
    simp only [Dt.py, Dt.eq, PyData.eqv]
    exact Bool.beq_eq_decide_eq i j
  | .int _, .str _, _, _ => by simp [Dt.py, Dt.eq, PyData.eqv]
  | .int _, .tup _, _, _ => by simp [Dt.py, Dt.eq, PyData.eqv]
  | .int _, .lst _, _, _ => by simp [Dt.py, Dt.eq, PyData.eqv]
  | .str _, .non, _, _ => by simp [Dt.py, Dt.eq, PyData.eqv]
  | .str _, .bl _, _, _ => by simp [Dt.py, Dt.eq, PyData.eqv]
  | .str _, .int _, _, _ => by simp [Dt.py, Dt.eq, PyData.eqv]
  | .str _, .str _, _, _ => by simp [Dt.py, Dt.eq, PyData.eqv]
  | .str _, .tup _, _, _ => by simp [Dt.py, Dt.eq, PyData.eqv]
  | .str _, .lst _, _, _ => by simp [Dt.py, Dt.eq, PyData.eqv]
  | .tup _, .non, _, _ => by simp [Dt.py, Dt.eq, PyData.eqv]
  | .tup _, .bl _, _, _ => by simp [Dt.py, Dt.eq, PyData.eqv]
  | .tup _, .int _, _, _ => by simp [Dt.py, Dt.eq, PyData.eqv]
  | .tup _, .str _, _, _ => by simp [Dt.py, Dt.eq, PyData.eqv]
  | .tup xs, .tup ys, h1, h2 => by
    rw [Dt.py] at h1 h2
    rw [Dt.py, Dt.py, Dt.eq, PyData.eqv]
    exact eqs_eqv xs ys (by simpa [PyData.canLay0] using h1) (by simpa [PyData.canLay0] using h2)
  | .tup _, .lst _, _, _ => by simp [Dt.py, Dt.eq, PyData.eqv]
  | .lst _, .non, _, _ => by simp [Dt.py, Dt.eq, PyData.eqv]
  | .lst _, .bl _, _, _ => by simp [Dt.py, Dt.eq, PyData.eqv]
  | .lst _, .int _, _, _ => by simp [Dt.py, Dt.eq, PyData.eqv]
  | .lst _, .str _, _, _ => by simp [Dt.py, Dt.eq, PyData.eqv]
  | .lst _, .tup _, _, _ => by simp [Dt.py, Dt.eq, PyData.eqv]
  | .lst xs, .lst ys, h1, h2 => by
    rw [Dt.py] at h1 h2
    rw [Dt.py, Dt.py, Dt.eq, PyData.eqv]
    exact eqs_eqv xs ys (by simpa [PyData.canLay0] using h1) (by simpa [PyData.canLay0] using h2)
theorem eqs_eqv : ∀ (xs ys : List Dt), PyData.canLayAll0 (Dt.pys xs) = true → PyData.canLayAll0 (Dt.pys ys) = true → PyData.eqvAll (Dt.pys xs) (Dt.pys ys) = Dt.eqs xs ys
  | [], [], _, _ => by simp [Dt.pys, Dt.eqs, PyData.eqvAll]
  | [], _ :: _, _, _ => by simp [Dt.pys, Dt.eqs, PyData.eqvAll]
  | _ :: _, [], _, _ => by simp [Dt.pys, Dt.eqs, PyData.eqvAll]
  | x :: xs, y :: ys, h1, h2 => by
    rw [Dt.pys] at h1 h2
    have h1' : x.py.canLay0 = true ∧ PyData.canLayAll0 (Dt.pys xs) = true := by simpa [PyData.canLayAll0] using h1
    have h2' : y.py.canLay0 = true ∧ PyData.canLayAll0 (Dt.pys ys) = true := by simpa [PyData.canLayAll0] using h2
    rw [Dt.pys, Dt.pys, Dt.eqs, PyData.eqvAll, eq_eqv x y h1'.1 h2'.1, eqs_eqv xs ys h1'.2 h2'.2]
end
def rEqD (K : PySem.W.Frag) (neg : Bool) : R2 := fun x y H Q => ∃ a b, Rp K H a x ∧ Rp K H b y ∧ a.flat 8 = true ∧ b.flat 8 = true ∧ Q (.bl (if neg then !a.eq b else a.eq b)) H
theorem op_eqD (hu : X.A.units + 64 < cLine) : OpR X (compareOp .Eq) (rEqD X.K false) := by
  intro pins s σ H x y v u Q I rx ry ⟨a, b, ra, rb, fa, fb, q⟩
  obtain ⟨ca, da⟩ := flat_lay a 8 fa
  obtain ⟨cb, db⟩ := flat_lay b 8 fb
  obtain ⟨as, r1⟩ := reads_of I ca ra rx
  obtain ⟨bs, r2⟩ := reads_of I cb rb ry
  refine rcAt_reads r1 r2 ca cb (by omega) _ _ _ _ ?_
  rw [eq_eqv a b ca cb]
  exact ⟨.bl _, H, I, rfl, q⟩
theorem op_neD (hu : X.A.units + 64 < cLine) : OpR X (compareOp .NotEq) (rEqD X.K true) := by
  intro pins s σ H x y v u Q I rx ry ⟨a, b, ra, rb, fa, fb, q⟩
  obtain ⟨ca, da⟩ := flat_lay a 8 fa
  obtain ⟨cb, db⟩ := flat_lay b 8 fb
  obtain ⟨as, r1⟩ := reads_of I ca ra rx
  obtain ⟨bs, r2⟩ := reads_of I cb rb ry
  refine compareNe_reads r1 r2 ca cb (by omega) ?_
  rw [eq_eqv a b ca cb]
  exact ⟨.bl _, H, I, rfl, q⟩
def dEq : D2 := fun a b Q => (a.flat 8 = true ∧ b.flat 8 = true) ∧ Q (.bl (a.eq b))
def dNe : D2 := fun a b Q => (a.flat 8 = true ∧ b.flat 8 = true) ∧ Q (.bl (!a.eq b))
theorem sem_eq {K : PySem.W.Frag} : Sem2 K (rEqD K false) dEq := ⟨fun hq h => ⟨h.1, hq _ h.2⟩, fun O H a b x y Q _ ra rb h => ⟨a, b, ra.mono mask_le, rb.mono mask_le, h.1.1, h.1.2, h.2 _ H (Same.refl H) (rp_bl.mpr rfl)⟩⟩
theorem sem_ne {K : PySem.W.Frag} : Sem2 K (rEqD K true) dNe := ⟨fun hq h => ⟨h.1, hq _ h.2⟩, fun O H a b x y Q _ ra rb h => ⟨a, b, ra.mono mask_le, rb.mono mask_le, h.1.1, h.1.2, h.2 _ H (Same.refl H) (rp_bl.mpr rfl)⟩⟩
theorem de_eq (hu : X.A.units + 64 < cLine) (ha : DE X a ta) (hb : DE X b tb) : DE X (.Compare a [.Eq] [b] pos) (dOp dEq ta tb) := de_cmp (op_eqD hu) sem_eq ha hb (nomark _)
theorem de_ne (hu : X.A.units + 64 < cLine) (ha : DE X a ta) (hb : DE X b tb) : DE X (.Compare a [.NotEq] [b] pos) (dOp dNe ta tb) := de_cmp (op_neD hu) sem_ne ha hb (nomark _)
theorem dt_eq (hu : X.A.units + 64 < cLine) (ha : DE X a ta) (hb : DE X b tb) : DT X (.Compare a [.Eq] [b] pos) (dTst (dOp dEq ta tb)) := dt_cmp (op_eqD hu) sem_eq ha hb (nomark _)
theorem dt_ne (hu : X.A.units + 64 < cLine) (ha : DE X a ta) (hb : DE X b tb) : DT X (.Compare a [.NotEq] [b] pos) (dTst (dOp dNe ta tb)) := dt_cmp (op_neD hu) sem_ne ha hb (nomark _)

def isB (k : Bool) : Dt → Bool
  | .bl b => b == k
  | _ => false
def isN : Dt → Bool
  | .non => true
  | _ => false
def dIs (neg : Bool) : D2 := fun a b Q => match b with
  | .bl k => Q (.bl (if neg then !isB k a else isB k a))
  | .non => Q (.bl (if neg then !isN a else isN a))
  | _ => False
def dChain (t t' : D2) (ta tb tc : DTE) : DTE := fun ρ Q => ta ρ fun a => tb ρ fun b => t a b fun z => match z with
  | .bl k => if k = true then tc ρ fun c => t' b c Q else Q (.bl false)
  | _ => False
abbrev DL := List Dt → (Dt → Prop) → Prop
structure SemL (K : PySem.W.Frag) (r : List V → Hp → VK → Prop) (t : DL) : Prop where
  mono : ∀ {ds Q Q'}, (∀ d, Q d → Q' d) → t ds Q → t ds Q'
  ok : ∀ (O : List Addr) (H : Hp) (ds : List Dt) (xs : List V) (Q : VK), (∀ p ∈ O, H p ≠ none) → RpL K (mask O H) ds xs →
    t ds (fun d => ∀ v H', Same H H' → Rp K (mask O H') d v → Q v H') → r xs H Q
def dCB (t : DL) (tl : DTA) : DTE := fun ρ Q => tl ρ fun ds => t ds Q
theorem cb_imp {K : PySem.W.Frag} {r : List V → Hp → VK → Prop} {t : DL} (S : SemL K r t) {tl : DTA} (m : ∀ {ρ Q Q'}, (∀ d, Q d → Q' d) → tl ρ Q → tl ρ Q') (σ : St) (H : Hp) (Q : VK) (h : lE K (dCB t tl) σ H Q) : tCB r (lA K tl) σ H Q := by
  obtain ⟨B, F, O, ρ, R, h⟩ := h
  exact ⟨B, F, O, ρ, R, m (fun ds h vs H1 s1 r1 => S.ok _ H1 ds vs Q (R.same s1).th r1 (S.mono (fun d q v H2 s2 r2 => q v H2 (s1.trans s2) r2) h)) h⟩
theorem de_cb {id : String} {x : Str} {p : Pos} {r : List V → Hp → VK → Prop} {t : DL} (hc : CallR X (.builtin id) r) (S : SemL X.K r t) (hg : Gl X x) (hm : X.mg x = none) (hv : bootBuiltins x = some (.builtin id)) (ha : DA X (e :: es) tl) (hn : x ≠ "__name__" := by decide)
    (hdb : (x == ("__debug__" : Str)) = false := by decide) (he : starEach (e :: es) X.env = (false, eval e X.env) :: starEach es X.env := by rfl) (hpl : (backTo pos (starEach es X.env)).any (·.1) = false := by rfl) : DE X (.Call (.Name x p) (e :: es) [] pos) (dCB t tl) where
  mono := fun hq h => ha.mono (fun _ h => S.mono hq h) h
  pe := (pe_callB hc hg hm hv ha.pa hn hdb he hpl).imp (cb_imp (tl := tl) S ha.mono)
def dLen : DL := fun ds Q => match ds with
  | [.lst xs] => Q (.int xs.length)
  | [.tup xs] => Q (.int xs.length)
  | _ => False
def dAbs : DL := fun ds Q => match ds with
  | [.int i] => Q (.int (if i < 0 then -i else i))
  | _ => False
def dMax : DL := fun ds Q => match ds with
  | [.int i, .int j] => Q (.int (if j > i then j else i))
  | _ => False
def dMin : DL := fun ds Q => match ds with
  | [.int i, .int j] => Q (.int (if j < i then j else i))
  | _ => False
def dInt1 : DL := fun ds Q => match ds with
  | [.int i] => Q (.int i)
  | [.bl k] => Q (.int (if k then 1 else 0))
  | _ => False
theorem sem_len {K : PySem.W.Frag} : SemL K (fun xs H Q => ∃ p ys, xs = [.ref p] ∧ (SqL K H p ys ∨ SqT K H p ys) ∧ Q (.int ys.length) H) dLen where
  mono := fun hq h => by
    unfold dLen at h ⊢
    split at h
    · exact hq _ h
    · exact hq _ h
    · exact h.elim
  ok := fun O H ds xs Q _ r h => by
    unfold dLen at h
    split at h
    · obtain ⟨v, r', rfl, r2, r3⟩ := rpl_cons.mp r
      obtain rfl := rpl_nil.mp r3
      obtain ⟨a, ys, rfl, hs, hl⟩ := rp_lstE r2
      exact ⟨a, ys, rfl, .inl (mask_le.seq hs), by rw [hl.len]; exact h _ H (Same.refl H) (rp_int.mpr rfl)⟩
    · obtain ⟨v, r', rfl, r2, r3⟩ := rpl_cons.mp r
      obtain rfl := rpl_nil.mp r3
      obtain ⟨a, ys, rfl, hs, hl⟩ := rp_tup.mp r2
      exact ⟨a, ys, rfl, .inr (mask_le.seqT hs), by rw [hl.len]; exact h _ H (Same.refl H) (rp_int.mpr rfl)⟩
    · exact h.elim
theorem rpl1 {K : PySem.W.Frag} {H : Hp} {i : Int} {xs : List V} (h : RpL K H [.int i] xs) : xs = [.int i] := by
  obtain ⟨v, r, rfl, r2, r3⟩ := rpl_cons.mp h
  rw [rpl_nil.mp r3, rp_int.mp r2]
theorem sem_abs {K : PySem.W.Frag} : SemL K (fun xs H Q => ∃ i, xs = [.int i] ∧ Q (.int (if i < 0 then -i else i)) H) dAbs where
  mono := fun hq h => by
    unfold dAbs at h ⊢
    split at h
    · exact hq _ h
    · exact h.elim
  ok := fun O H ds xs Q _ r h => by
    unfold dAbs at h
    split at h
    · exact ⟨_, rpl1 r, h _ H (Same.refl H) (rp_int.mpr rfl)⟩
    · exact h.elim
theorem de_len {p : Pos} (hm : X.mg "len" = none) (ha : DA X [a] tl) (hg : Gl X "len" := by rfl) (he : starEach [a] X.env = (false, eval a X.env) :: starEach [] X.env := by rfl) (hpl : (backTo pos (starEach [] X.env)).any (·.1) = false := by rfl) :
    DE X (.Call (.Name "len" p) [a] [] pos) (dCB dLen tl) := de_cb call_len_seq sem_len hg hm PySem.boot_len ha (he := he) (hpl := hpl)
theorem de_abs {p : Pos} (hm : X.mg "abs" = none) (ha : DA X [a] tl) (hg : Gl X "abs" := by rfl) (hv : bootBuiltins "abs" = some (.builtin "abs") := by rfl) (he : starEach [a] X.env = (false, eval a X.env) :: starEach [] X.env := by rfl) (hpl : (backTo pos (starEach [] X.env)).any (·.1) = false := by rfl) :
    DE X (.Call (.Name "abs" p) [a] [] pos) (dCB dAbs tl) := de_cb call_abs sem_abs hg hm hv ha (he := he) (hpl := hpl)
def tyOf : Dt → String
  | .non => "NoneType"
  | .bl _ => "bool"
  | .int _ => "int"
  | .str _ => "str"
  | .tup _ => "tuple"
  | .lst _ => "list"
  | .fn _ => "function"
  | .exc _ _ _ => "exception"
  | .obj _ _ _ => "instance"
def noFn : Dt → Bool
  | .fn _ => false
  | .exc _ _ _ => false
  | .obj _ _ _ => false
  | _ => true
def isT (T : String) (d : Dt) : Bool := tyOf d == T || (T == "int" && tyOf d == "bool")
def IsiOk (T : String) : Prop := ∀ (K : PySem.W.Frag) (d : Dt), noFn d = true → PySem.W.kitOne K (.type (tyOf d)) (.type T) = some (isT T d)
theorem call_isi {T : String} (hT : IsiOk T) : CallR X (.builtin "isinstance") (fun xs H Q => ∃ d x, xs = [x, .ty T] ∧ Rp X.K H d x ∧ noFn d = true ∧ Q (.bl (isT T d)) H) := by
  intro pins s σ H xs us Q I r ⟨d, x, e, rp, nf, q⟩
  subst e
  obtain ⟨u, u2, rfl, r1, r2⟩ := vals2 r
  cases (show u2 = .type T from r2)
  have hk := hT X.K d nf
  have fin : ∀ tk, EP X pins σ Q (.bool (isT T d)) { s with toks := tk } := fun tk => ⟨.bl _, H, I.tok tk, rfl, q⟩
  cases d with
  | non => rw [rp_non.mp rp] at r1; cases (show u = Value.none from r1); exact PySem.W.kia_one PySem.W.kitx_none I.kIn True.intro hk (fun z => nomatch z) fin
  | bl y => rw [rp_bl.mp rp] at r1; cases (show u = Value.bool y from r1); exact PySem.W.kia_one PySem.W.kitx_bool I.kIn True.intro hk (fun z => nomatch z) fin
  | int i => rw [rp_int.mp rp] at r1; obtain ⟨t, q⟩ := (show ∃ t, u = Value.int i t from r1); cases q; exact PySem.W.kia_one PySem.W.kitx_int I.kIn True.intro hk (fun z => nomatch z) fin
  | str y => rw [rp_str.mp rp] at r1; obtain ⟨t, q⟩ := (show ∃ t, u = Value.str y t from r1); cases q; exact PySem.W.kia_one PySem.W.kitx_str I.kIn True.intro hk (fun z => nomatch z) fin
  | fn a => cases nf
  | exc _ _ _ => cases nf
  | obj _ _ _ => cases nf
  | tup ds =>
    obtain ⟨a, ys, rfl, hs, _⟩ := rp_tup.mp rp
    cases (show u = Value.ref a from r1)
    obtain ⟨_, _, ⟨o, h1, h2, _⟩, _⟩ := I.tuple hs
    exact PySem.W.kia_one PySem.W.kitx_tuple I.kIn ⟨o, h1, h2⟩ hk (fun z => nomatch z) fin
  | lst ds =>
    obtain ⟨a, ys, rfl, hs, _⟩ := rp_lstE rp
    cases (show u = Value.ref a from r1)
    obtain ⟨_, _, ⟨o, n, h1, h2, _⟩, _⟩ := I.list hs
    exact PySem.W.kia_one PySem.W.kitx_list I.kIn ⟨o, h1, h2⟩ hk (fun z => nomatch z) fin
def dIsi (T : String) (ta : DTE) : DTE := fun ρ Q => ta ρ fun d => noFn d = true ∧ Q (.bl (isT T d))
theorem de_isi {T : String} {Ts : Str} {p p2 : Pos} (hm : X.mg "isinstance" = none) (hmT : X.mg Ts = none) (hT : IsiOk T) (ha : DE X a ta) (hg : Gl X "isinstance" := by rfl) (hgT : Gl X Ts := by rfl) (hv : bootBuiltins "isinstance" = some (.builtin "isinstance") := by rfl)
    (hvT : bootBuiltins Ts = some (.type T) := by rfl) (hn : Ts ≠ "__name__" := by decide) (hd : (Ts == ("__debug__" : Str)) = false := by decide)
    (hs1 : starEach [a, .Name Ts p2] X.env = (false, eval a X.env) :: starEach [.Name Ts p2] X.env := by rfl) (hs2 : starEach [.Name Ts p2] X.env = (false, eval (.Name Ts p2) X.env) :: starEach [] X.env := by rfl)
    (hpl : (backTo pos (starEach [.Name Ts p2] X.env)).any (·.1) = false := by rfl) : DE X (.Call (.Name "isinstance" p) [a, .Name Ts p2] [] pos) (dIsi T ta) where
  mono := fun hq h => ha.mono (fun _ h => ⟨h.1, hq _ h.2⟩) h
  pe := (pe_callB (call_isi hT) hg hm hv (pa_cons ha.pe (pa_cons (pe_bltn (v := .ty T) hgT hmT hvT rfl hn hd) pa_nil hs2) hs1) (he := hs1) (hpl := hpl)).imp fun σ H Q ⟨B, F, O, ρ, R, h⟩ =>
    ⟨B, F, O, ρ, R, ha.mono (fun d h v H1 s1 r1 => ⟨d, v, rfl, r1.mono mask_le, h.1, h.2 _ H1 s1 (rp_bl.mpr rfl)⟩) h⟩

abbrev DTO := DEnv → (Option Int → Prop) → Prop
def lO (K : PySem.W.Frag) (t : DTO) : TO := fun σ H Q => ∃ B F O ρ, Rep K B F O H σ ρ ∧ t ρ fun o => ∀ H', Same H H' → Q o H'
structure DO (X : Cx) (e : Option Expr) (t : DTO) : Prop where
  mono : ∀ {ρ Q Q'}, (∀ d, Q d → Q' d) → t ρ Q → t ρ Q'
  po : PO X e (lO X.K t)
def dNoPart : DTO := fun _ Q => Q none
def dPart (te : DTE) : DTO := fun ρ Q => te ρ fun d => match d with
  | .int i => Q (some i)
  | _ => False
theorem PO.imp {e : Option Expr} {t t' : TO} (h : PO X e t) (i : ∀ σ H Q, t' σ H Q → t σ H Q) : PO X e t' := fun pins s σ H Q I q => h pins s σ H Q I (i _ _ _ q)
theorem dp_some (h : DE X e te) : DO X (some e) (dPart te) where
  mono := fun hq z => h.mono (fun d z => by
    split at z
    · exact hq _ z
    · exact z.elim) z
  po := (po_some h.pe).imp fun σ H Q ⟨B, F, O, ρ, R, z⟩ => ⟨B, F, O, ρ, R, h.mono (fun d z v H1 s1 r1 => by
    split at z
    · exact ⟨_, rp_int.mp r1, z H1 s1⟩
    · exact z.elim) z⟩
def cutD (xs : List Dt) (lo hi : Option Int) : List Dt := (xs.drop (HT.sIx xs.length 0 lo)).take (HT.sIx xs.length xs.length hi - HT.sIx xs.length 0 lo)
theorem RpL.cut {K : PySem.W.Frag} {H : Hp} {ds : List Dt} {xs : List V} {lo hi : Option Int} (h : RpL K H ds xs) : RpL K H (cutD ds lo hi) (cutV xs lo hi) := by
  unfold cutD cutV
  rw [h.len]
  exact (h.drop _).take _
def dSlice (te : DTE) (tl th : DTO) : DTE := fun ρ Q => te ρ fun d => tl ρ fun lo => th ρ fun hi => match d with
  | .lst ds => Q (.lst (cutD ds lo hi))
  | _ => False
theorem de_slice {lo hi : Option Expr} {t1 t2 : DTO} {p2 : Pos} (he : DE X e te) (hl : DO X lo t1) (hh : DO X hi t2) : DE X (.Subscript e (.Slice lo hi none p2) pos) (dSlice te t1 t2) where
  mono := fun hq z => he.mono (fun d z => hl.mono (fun l z => hh.mono (fun h z => by
    split at z
    · exact hq _ z
    · exact z.elim) z) z) z
  pe := (pe_slice sl_list he.pe hl.po hh.po).imp fun σ H Q ⟨B, F, O, ρ, R, z⟩ => ⟨B, F, O, ρ, R, he.mono (fun d z v H1 s1 r1 => ⟨B, F, O, ρ, R.same s1, hl.mono (fun l z H2 s2 => ⟨B, F, O, ρ, (R.same s1).same s2, hh.mono (fun h z H3 s3 => by
    split at z
    · obtain ⟨a, xs, rfl, hs, hr⟩ := rp_lstE ((r1.mono s2.mask).mono s3.mask)
      refine ⟨a, xs, rfl, mask_le.seq hs, fun p hp => ?_⟩
      have R3 := ((R.same s1).same s2).same s3
      have np : p ∉ F ++ O := fun m => R3.th p m hp
      refine z (.ref p) _ (((s1.trans s2).trans s3).trans (Same.upd hp)) (rp_lstI ⟨p, _, rfl, (mask_upd np), ?_⟩)
      exact hr.cut.mono (Same.upd hp).mask
    · exact z.elim) z⟩) z⟩) z⟩
end
theorem isi_int : IsiOk "int" := fun K d h => by cases d <;> first | rfl | cases h
theorem isi_bool : IsiOk "bool" := fun K d h => by cases d <;> first | rfl | cases h
theorem isi_tuple : IsiOk "tuple" := fun K d h => by cases d <;> first | rfl | cases h
theorem isi_list : IsiOk "list" := fun K d h => by cases d <;> first | rfl | cases h
end L2

namespace L2
open PySem PySem.Spec PyProof.Rows PySem.SeqAt

theorem closure_go (env : Env) : ∀ (names : List (Str × NameKind)) (cs : List (Str × Addr)), (∀ y ∈ names, y.2 = .free → ∃ c, env.cells.lookup y.1 = some c) → (∀ n c, cs.lookup n = some c → env.cells.lookup n = some c) →
    ∃ cl, (forIn names cs fun (x : Str × NameKind) (r : List (Str × Addr)) => (if (x.2 == NameKind.free) = true then (do let c ← cellOf env x.1; pure (ForInStep.yield ((x.1, c) :: r))) else pure (ForInStep.yield r) : Sem (ForInStep (List (Str × Addr))))) = pure cl ∧
      (∀ n c, cl.lookup n = some c → env.cells.lookup n = some c) ∧ (∀ n, (cs.lookup n).isSome = true → (cl.lookup n).isSome = true) ∧ ∀ n, (n, NameKind.free) ∈ names → (cl.lookup n).isSome = true
  | [], cs, _, h2 => ⟨cs, rfl, h2, fun _ h => h, fun n h => (nomatch h)⟩
  | (x, k) :: names, cs, h1, h2 => by
    rw [List.forIn_cons]
    by_cases hk : k = .free
    · subst hk
      obtain ⟨c, hc⟩ := h1 (x, .free) List.mem_cons_self rfl
      have e : cellOf env x = pure c := by unfold cellOf; rw [hc]
      have h3 : ∀ n c', ((x, c) :: cs).lookup n = some c' → env.cells.lookup n = some c' := fun n c' q => by
        rw [List.lookup_cons] at q
        split at q
        · rename_i b; cases q; rw [eq_of_beq b]; exact hc
        · exact h2 n c' q
      obtain ⟨cl, g1, g2, g3, g4⟩ := closure_go env names ((x, c) :: cs) (fun y hy => h1 y (List.mem_cons_of_mem _ hy)) h3
      refine ⟨cl, ?_, g2, fun n q => g3 n ?_, fun n hn => ?_⟩
      · simp only [beq_self_eq_true, if_true, e, pure_bind]
        exact g1
      · rw [List.lookup_cons]; split
        · rfl
        · exact q
      · rcases List.mem_cons.mp hn with q | q
        · cases q
          exact g3 x (by rw [List.lookup_cons]; simp)
        · exact g4 n q
    · have hb : (k == NameKind.free) = false := by simpa using hk
      obtain ⟨cl, g1, g2, g3, g4⟩ := closure_go env names cs (fun y hy => h1 y (List.mem_cons_of_mem _ hy)) h2
      refine ⟨cl, ?_, g2, g3, fun n hn => ?_⟩
      · simp only [hb, Bool.false_eq_true, if_false, pure_bind]
        exact g1
      · rcases List.mem_cons.mp hn with q | q
        · cases q; exact absurd rfl hk
        · exact g4 n q
theorem closure_of {env : Env} {scope : Scope} (h : ∀ y ∈ scope.names, y.2 = .free → ∃ c, env.cells.lookup y.1 = some c) :
    ∃ cl, closureFor scope env = pure cl ∧ (∀ n c, cl.lookup n = some c → env.cells.lookup n = some c) ∧ ∀ n, (n, NameKind.free) ∈ scope.names → ∃ c, cl.lookup n = some c := by
  obtain ⟨cl, g1, g2, _, g4⟩ := closure_go env scope.names [] h (fun n c q => by simp at q)
  refine ⟨cl, ?_, g2, fun n q => Option.isSome_iff_exists.mp (g4 n q)⟩
  unfold closureFor
  simp only [bind_pure]
  exact g1

def compCx (X : Cx) (scope : Scope) (N : List Str) (cl : List (Str × Addr)) (C : Addr) (s₀ : Shared) (H₀ : Hp) (ex : List Addr) : Cx where
  prog := X.prog
  w := X.w
  K := X.K
  mg := X.mg
  base := X.base
  A := X.A
  N := N
  s₀ := s₀
  H₀ := H₀
  env := compEnvC scope cl C X.env
  outer := X.stack
  stack := X.stack
  ex := ex
  fn := fun _ => false
  calm := X.calm
  pn := []
  xe := fun _ _ => False

def PTs (X : Cx) (ifs : List Expr) (t : TT) : Prop :=
  ∀ (pins : List (Addr × Obj)) (s : Shared) (σ : St) (H : Hp) (Q : Bool → Hp → Prop), Inv X pins σ H s → t σ H Q →
    wpAny (model X.prog X.w) X.A (forIn ifs true fun c r => if r = true then do let ok ← isTrue c X.env (eval c X.env); pure (ForInStep.yield ok) else pure (ForInStep.yield r)) (TP X pins σ Q) X.xe s
theorem pts_nil {X : Cx} : PTs X [] (fun _ H Q => Q true H) := fun pins s σ H Q I h => wpAny_tests_nil ⟨H, I, h⟩
theorem pts_one {X : Cx} {c : Expr} {t : TT} (h : PT X c t) : PTs X [c] t := fun pins s σ H Q I q => wpAny_tests_one (h pins s σ H Q I q)

def tComp (sl : List Nat) (wi : TI) (tt : TT) (te : TE) : TE := fun σ H Q => wi σ H fun J H1 => ∃ vs : List V, sl.map (fun j => σ[j]?) = vs.map (fun v => some (some v)) ∧ ∀ D, H1 D = none →
  ∃ W : Nat → Nat → List V → Hp → Prop, (∃ m, W 0 m [] (upd H1 D (.lst []))) ∧ ∀ i m acc H, W i m acc H →
    (J.stop i H ∧ Q (.ref D) H) ∨
    (J.go i H ∧ ∀ x H', J.yld i H x H' → tt (some x :: vs.map some) H' fun b H2 =>
      if b = true then te (some x :: vs.map some) H2 fun y H3 => H3 D = some (.lst acc) ∧ acc.length < sizeLine ∧ ∃ m', m' < m ∧ W (i + 1) m' (acc ++ [y]) (upd H3 D (.lst (acc ++ [y])))
      else ∃ m', m' < m ∧ W (i + 1) m' acc H2)

theorem lookup_relabel_free {env : Env} : ∀ {names : List (Str × NameKind)} {x : Str}, names.lookup x = some .free → env.scope.kind = .function → env.kindOf x = some .cell →
    (names.map fun (n, k) => if (k == NameKind.free && env.scope.kind == .function && env.kindOf n == some .cell) then (n, NameKind.cell) else (n, k)).lookup x = some .cell
  | [], _, h, _, _ => by simp at h
  | (n, k) :: r, x, h, hk, he => by
    have ih := @lookup_relabel_free env r x
    show List.lookup x ((if (k == NameKind.free && env.scope.kind == .function && env.kindOf n == some .cell) = true then (n, NameKind.cell) else (n, k)) :: _) = _
    cases hx : x == n with
    | true =>
      simp only [List.lookup_cons, hx] at h
      cases h
      have e := eq_of_beq hx
      subst e
      simp [List.lookup_cons, hk, he]
    | false =>
      simp only [List.lookup_cons, hx] at h
      by_cases hc : (k == NameKind.free && env.scope.kind == .function && env.kindOf n == some .cell) = true
      · rw [if_pos hc]; simp only [List.lookup_cons, hx]; exact ih h hk he
      · rw [if_neg hc]; simp only [List.lookup_cons, hx]; exact ih h hk he
theorem relabel_back {env : Env} : ∀ {names : List (Str × NameKind)} {x : Str}, (∀ y ∈ names, y.2 ≠ .cell) →
    ((names.map fun (n, k) => if (k == NameKind.free && env.scope.kind == .function && env.kindOf n == some .cell) then (n, NameKind.cell) else (n, k)).lookup x = some .cell ∨
     (names.map fun (n, k) => if (k == NameKind.free && env.scope.kind == .function && env.kindOf n == some .cell) then (n, NameKind.cell) else (n, k)).lookup x = some .free) → (x, NameKind.free) ∈ names
  | [], _, _, h => by simp at h
  | (n, k) :: r, x, hn, h => by
    have ih := @relabel_back env r x fun y hy => hn y (List.mem_cons_of_mem _ hy)
    have nk : k ≠ .cell := hn (n, k) List.mem_cons_self
    rw [List.map_cons] at h
    by_cases hc : (k == NameKind.free && env.scope.kind == .function && env.kindOf n == some .cell) = true
    · simp only [hc, if_true, List.lookup_cons] at h
      have kf : k = .free := by simp at hc; exact hc.1.1
      subst kf
      cases hx : x == n with
      | true => rw [eq_of_beq hx]; exact List.mem_cons_self
      | false => simp only [hx] at h; exact List.mem_cons_of_mem _ (ih h)
    · have hc' : (k == NameKind.free && env.scope.kind == .function && env.kindOf n == some .cell) = false := by simpa using hc
      simp only [hc', Bool.false_eq_true, if_false, List.lookup_cons] at h
      cases hx : x == n with
      | true =>
        simp only [hx] at h
        have kf : k = .free := by
          rcases h with h | h
          · exact absurd (Option.some.inj h) nk
          · exact Option.some.inj h
        subst kf
        rw [eq_of_beq hx]; exact List.mem_cons_self
      | false => simp only [hx] at h; exact List.mem_cons_of_mem _ (ih h)

section
variable {X : Cx} {elt iter : Expr} {x : Str} {px : Pos} {ifs : List Expr} {scope : Scope} {pos : Pos} {N : List Str} {sl : List Nat} {wi : TI} {tt : TT} {te : TE}
structure CompSide (X : Cx) (scope : Scope) (x : Str) (N : List Str) (sl : List Nat) : Prop where
  hx : scope.names.lookup x = some .local
  kind : scope.kind = .function
  cell : ∀ y ∈ scope.names, y.2 ≠ .cell
  names : ∀ y ∈ scope.names, y.2 = .local → scope.names.lookup y.1 = some .local
  free : ∀ y ∈ scope.names, y.2 = .free → X.env.kindOf y.1 = some .cell
  nd : (x :: N).Nodup
  sl : N.map some = sl.map (fun j => X.N[j]?)
  frN : ∀ n ∈ N, scope.names.lookup n = some .free

theorem comp_inv (S : CompSide X scope x N sl) {pins : List (Addr × Obj)} {σ : St} {H : Hp} {s : Shared} {h₁ : Heap} {tk : Nat} {fp : List Addr} {cl : List (Str × Addr)} {vs : List V} {o : Obj} (I : Inv X pins σ H s)
    (hfp : ∀ b ∈ fp, FpOk X pins H b) (hob : ∀ b ∈ fp, ∃ o, s.heap.get? b = some o) (hns : h₁.Ns s.heap.objs.size (fun _ => none)) (hsb : Heap.SameBut s.heap.objs.size (s.heap.push o) h₁)
    (hcl : ∀ n c, cl.lookup n = some c → X.env.cells.lookup n = some c) (hcl2 : ∀ n, (n, NameKind.free) ∈ scope.names → ∃ c, cl.lookup n = some c)
    (hvs : sl.map (fun j => σ[j]?) = vs.map (fun v => some (some v))) :
    Inv (compCx X scope (x :: N) cl s.heap.objs.size s H fp) [] (none :: vs.map some) H { s with heap := h₁, toks := tk } := by
  have hL := I.lt
  have keep : ∀ b o, s.heap.get? b = some o → h₁.get? b = some o := fun b o e => (hsb.2 b (Nat.ne_of_lt (Heap.lt_size e))).trans (Heap.get?_push_of_some _ e)
  have kf : X.env.scope.kind = .function := I.ok.kind
  refine ⟨⟨I.ok.mod, ?_, I.ok.glob, I.ok.blt, Nat.le_refl _, fun y z c h1 h2 => I.ok.inj y z c (hcl y c h1) (hcl z c h2), fun y hy => ?_, fun y c h => (by cases h), I.ok.hd, I.ok.frames, .inl rfl, fun b hb => ⟨?_, fun y c e => ?_⟩, fun b o e => I.bs b o e,
    Nat.le_trans I.ok.bsz I.sz, fun b o e hb => ?_, fun b hb hz => ?_, I.stack, I.stkFree⟩, rfl, I.bare, Un.kept keep, ⟨_, hns, fun i y v e1 e2 e3 => ?_⟩, fun y c e => ?_, I.hok.fresh (Nat.le_refl _), fun y c e => I.freeC y c (hcl y c e),
    fun p hp => absurd (show p ∈ ([] : List (Addr × Obj)) from hp) (by simp), I.hok.kept keep, ?_⟩
  · exact S.kind
  · exact hcl2 y (relabel_back (env := X.env) (fun z hz => S.cell z hz) hy)
  · obtain ⟨o', e⟩ := hob b hb
    exact Nat.ne_of_lt (Heap.lt_size e)
  · exact (hfp b hb).2.2.2.2.1 y c (hcl y c e)
  · rcases (hfp b hb).2.2.2.1 with z | z
    · exact I.ok.noex b o e z
    · exact absurd (Nat.lt_of_lt_of_le (Heap.lt_size e) (Nat.le_trans I.ok.bsz z)) (Nat.lt_irrefl _)
  · rcases List.mem_cons.mp (I.stkSub b hz) with q | q
    · exact (hfp b hb).2.1 q
    · exact (hfp b hb).2.2.1 q
  · cases i with
    | zero => simp at e2
    | succ j =>
      have e1' : N[j]? = some y := by simpa [compCx] using e1
      have e2' : vs[j]? = some v := by
        rw [List.getElem?_cons_succ, List.getElem?_map] at e2
        cases q : vs[j]? with
        | none => rw [q] at e2; cases e2
        | some v' => rw [q] at e2; cases e2; rfl
      have q1 := congrArg (fun l => l[j]?) S.sl
      have q2 := congrArg (fun l => l[j]?) hvs
      simp only [List.getElem?_map, e1', e2', Option.map_some] at q1 q2
      cases hk : sl[j]? with
      | none => rw [hk] at q1; cases q1
      | some k =>
        rw [hk] at q1 q2
        have n1 : X.N[k]? = some y := (Option.some.inj q1).symm
        have n2 : σ[k]? = some (some v) := Option.some.inj q2
        have hfr := S.frN y (List.mem_of_getElem? e1')
        have hm := PySem.mem_of_lookup hfr
        have hc := S.free _ hm rfl
        obtain ⟨m, hn, hl⟩ := I.loc
        obtain ⟨u, r, lk⟩ := hl k y v n1 n2 (.inr (.inl hc))
        refine ⟨u, r, .inr ⟨.inl (lookup_relabel_free hfr kf hc), ?_⟩⟩
        rcases lk with ⟨kl, _⟩ | ⟨_, c, ec, ⟨o', ho, hd⟩⟩
        · rw [hc] at kl; cases kl
        · obtain ⟨c', ec'⟩ := hcl2 y hm
          have := hcl y c' ec'
          rw [ec] at this; cases this
          exact ⟨c, ec', o', keep _ _ ho, hd⟩
  · obtain ⟨v, o', ho, hd⟩ := I.cell y c (hcl y c e)
    exact ⟨v, o', keep _ _ ho, hd⟩
  · have l1 := congrArg List.length S.sl
    have l2 := congrArg List.length hvs
    simp only [List.length_map] at l1 l2
    simp [compCx]; omega

theorem pe_comp (S : CompSide X scope x N sl) (hc : X.calm = true) (hi : PI X (.Name x px) iter wi) (ht : ∀ cl C s₀ H₀ ex, PTs (compCx X scope (x :: N) cl C s₀ H₀ ex) ifs tt) (he : ∀ cl C s₀ H₀ ex, PE (compCx X scope (x :: N) cl C s₀ H₀ ex) elt te)
    (hs : ∀ x, foldedSetIterable iter X.env x = pure x := by intro _; rfl) : PE X (.ListComp elt [⟨.Name x px, iter, ifs, 0⟩] scope pos) (tComp sl wi tt te) := by
  intro pins s σ H Q I h
  obtain ⟨cl, hclos, hcl, hcl2⟩ := closure_of (env := X.env) (scope := scope) fun y hy hf => I.ok.has y.1 (.inl (S.free y hy hf))
  rw [eval_ListComp]
  refine wpAny_comprehension_free (use := none) rfl hs hclos S.kind S.names (thn (hi pins s σ H _ I h) fun v s1 h1 => thn h1 fun itv s2 h2 => ?_)
  obtain ⟨it, fp, tn, J, H2, e, I2, T, st2, f2, vs, hvs, hW⟩ := h2
  subst e
  refine wpAny_newObj_type (wpAny_newFunctionEnv S.cell (by intro y hy; simp at hy) (fun h₁ hns₁ hsb₁ => ?_) S.kind)
  have hD : H2 s2.heap.objs.size = none := I2.fresh
  have I3 : Inv X pins σ (upd H2 s2.heap.objs.size (.lst [])) { s2 with heap := s2.heap.push { cls := .type "list", data := .seq ([] : List Value).toArray }, toks := s2.toks } := I2.lnew (its := []) (ys := []) .nil (Nat.zero_le _)
  have hbD : ∀ b ∈ fp, b ≠ s2.heap.objs.size := fun b hb z => by
    obtain ⟨o', e', _⟩ := T.obj _ _ st2 b hb
    exact absurd (Heap.lt_size e') (by rw [z]; exact Nat.lt_irrefl _)
  have f3 : ∀ b ∈ fp, FpOk X pins (upd H2 s2.heap.objs.size (.lst [])) b := fun b hb => ⟨by rw [upd_ne (hbD b hb)]; exact (f2 b hb).1, (f2 b hb).2⟩
  have ob3 : ∀ b ∈ fp, ∃ o, (s2.heap.push { cls := .type "list", data := .seq ([] : List Value).toArray }).get? b = some o := fun b hb => by
    obtain ⟨o', e', _⟩ := T.obj _ _ st2 b hb
    exact ⟨o', Heap.get?_push_of_some _ e'⟩
  have IC := comp_inv (tk := s2.toks + ([] : List (Str × Value)).length) S I3 f3 ob3 hns₁ hsb₁ hcl hcl2 hvs
  dsimp only at hsb₁ IC ⊢
  generalize hCC : (s2.heap.push { cls := .type "list", data := .seq ([] : List Value).toArray }).objs.size = C at hns₁ hsb₁ IC ⊢
  have old : ∀ b o, s2.heap.get? b = some o → h₁.get? b = some o := fun b o e => by
    have e1 : (s2.heap.push { cls := .type "list", data := .seq ([] : List Value).toArray }).get? b = some o := Heap.get?_push_of_some _ e
    exact (hsb₁.2 b (by rw [← hCC]; exact Nat.ne_of_lt (Heap.lt_size e1))).trans (Heap.get?_push_of_some _ e1)
  have st₁ : tn 0 h₁ := T.keep _ _ _ st2 fun b hb o e => old b o e
  obtain ⟨W, ⟨m0, w0⟩, turn⟩ := hW s2.heap.objs.size hD
  have fpC : ∀ {H' : Hp} {pl : List (Addr × Obj)}, (∀ b ∈ fp, H' b = none) → (∀ p ∈ pl, p.1 ∉ fp) → ∀ b ∈ fp, FpOk (compCx X scope (x :: N) cl C { s2 with heap := s2.heap.push { cls := .type "list", data := .seq ([] : List Value).toArray }, toks := s2.toks } (upd H2 s2.heap.objs.size (.lst [])) fp) pl H' b := fun {H' pl} hn hp b hb => by
    refine ⟨hn b hb, (IC.ok.exf b hb).1, IC.ok.exfs b hb, .inl hb, (IC.ok.exf b hb).2, fun p hq z => ?_⟩
    have hq' : p ∈ pl := by simpa [compCx] using hq
    exact hp p hq' (by rw [z]; exact hb)
  have done : ∀ {σ' : St} {H' : Hp} {s' : Shared}, Inv (compCx X scope (x :: N) cl C { s2 with heap := s2.heap.push { cls := .type "list", data := .seq ([] : List Value).toArray }, toks := s2.toks } (upd H2 s2.heap.objs.size (.lst [])) fp) [] σ' H' s' → Q (.ref s2.heap.objs.size) H' →
      ∃ m, s'.heap.Ns C m ∧ ∀ h', Heap.SameBut C s'.heap h' → EP X pins σ Q (.ref s2.heap.objs.size) { s' with heap := h' } := fun {σ' H' s'} J q => by
    obtain ⟨m, hn, _⟩ := id J.loc
    refine ⟨m, hn, fun h' hs' => ⟨.ref s2.heap.objs.size, H', ?_, rfl, q⟩⟩
    have u : Un (frs X.stack) fp H2 H' s2.heap s'.heap := (Un.laid (fun b u e => Heap.get?_push_of_some _ e) (Nat.le_refl _) hD).trans J.base
    have nC : ∀ b o, s2.heap.get? b = some o → b ≠ C := fun b o e => by
      have e1 : (s2.heap.push { cls := .type "list", data := .seq ([] : List Value).toArray }).get? b = some o := Heap.get?_push_of_some _ e
      rw [← hCC]; exact Nat.ne_of_lt (Heap.lt_size e1)
    have u' : Un (frs X.stack) fp H2 H' s2.heap h' :=
      ⟨fun b o e n hb hx => (hs'.2 b (nC b o e)).trans (u.keep b o e n hb hx), fun b o e n hb hx => let ⟨sl, q⟩ := u.slot b o e n hb hx; ⟨sl, (hs'.2 b (nC b o e)).trans q⟩, u.free, fun b o e hx => let ⟨o', q⟩ := u.there b o e hx; ⟨o', (hs'.2 b (nC b o e)).trans q⟩, u.tups, u.frzs, u.tbls⟩
    have hok : HOk X.prog X.w H' h' := fun b ob e => (J.hok b ob e).stay (fun c w' hc q => (hs'.2 c (by
      rintro rfl
      have hf : H' c = none := J.free
      rcases hc with rfl | hc
      · rw [hf] at e; cases e
      · rw [hf] at hc; cases hc)).trans q) (fun _ q => q) fun _ _ q => q
    have hos : s'.os = s2.os := J.os
    exact I2.call' (s' := { s' with heap := h' }) (ch := fp) hos u' hok J.bare fun b hb => ⟨(f2 b hb).2.2.2.1, (f2 b hb).2.1, (f2 b hb).2.2.2.2.1, (f2 b hb).2.2.2.2.2⟩
  have loop : codeAny (model X.prog X.w) X.A (.compLoop (.ListComp elt [⟨.Name x px, iter, ifs, 0⟩] scope pos) 0 (.ref it) (.ref s2.heap.objs.size) (compEnvC scope cl C X.env)) (compPost (model X.prog X.w) X.A X.xe none (EP X pins σ Q) (.ref s2.heap.objs.size) C)
      { s2 with heap := h₁, toks := s2.toks + ([] : List (Str × Value)).length } := by
    refine codeAny_compLoop_tests (fun n s' => ∃ i acc σ' H', Inv (compCx X scope (x :: N) cl C { s2 with heap := s2.heap.push { cls := .type "list", data := .seq ([] : List Value).toArray }, toks := s2.toks } (upd H2 s2.heap.objs.size (.lst [])) fp) [] σ' H' s' ∧ (∃ y, σ' = y :: vs.map some) ∧
      tn i s'.heap ∧ (∀ b ∈ fp, H' b = none) ∧ W i n acc H') ?_ m0 ⟨0, [], _, _, IC, ⟨none, rfl⟩, st₁, fun b hb => (f3 b hb).1, w0⟩
    rintro n s3 ⟨i, acc, σ3, H3, I4, ⟨y, rfl⟩, st3, fr3, w3⟩
    rcases turn i n acc H3 w3 with ⟨stop, qn⟩ | ⟨go, step⟩
    · refine wpAny_mono (T.done (compCx X scope (x :: N) cl C { s2 with heap := s2.heap.push { cls := .type "list", data := .seq ([] : List Value).toArray }, toks := s2.toks } (upd H2 s2.heap.objs.size (.lst [])) fp) rfl rfl rfl hc i [] s3 _ H3 (fun _ _ => False) I4 (fpC fr3 (by simp)) st3 stop) (fun r s4 ⟨hr, I5⟩ => ?_) fun _ _ z => False.elim z
      subst hr
      exact done I5 qn
    · refine wpAny_mono (T.item (compCx X scope (x :: N) cl C { s2 with heap := s2.heap.push { cls := .type "list", data := .seq ([] : List Value).toArray }, toks := s2.toks } (upd H2 s2.heap.objs.size (.lst [])) fp) rfl rfl rfl hc i [] s3 _ H3 (fun _ _ => False) I4 (fpC fr3 (by simp)) st3 go) (fun r s4 ⟨u, hr, h4⟩ => ?_) fun _ _ z => False.elim z
      subst hr
      have e0 : ∀ (k : Unit → Sem Unit), (letOwnedTupleGo (.Name x px) (.ref it) u >>= k) = k () := fun k => rfl
      have hg : PG (compCx X scope (x :: N) cl C { s2 with heap := s2.heap.push { cls := .type "list", data := .seq ([] : List Value).toArray }, toks := s2.toks } (upd H2 s2.heap.objs.size (.lst [])) fp) (.Name x px) (gName 0) := pg_name S.nd rfl (.inl (lookup_relabel_local S.hx)) (.inr (lookup_relabel_local S.hx))
      show wpAny (model X.prog X.w) X.A (assign (.Name x px) (compEnvC scope cl C X.env) u) _ _ s4
      rw [← e0 fun _ => assign (.Name x px) (compEnvC scope cl C X.env) u]
      refine wpAny_bind (wpAny_mono h4 (fun _ s5 ⟨z, H5, I5, r5, y5, st5, fr5⟩ => ?_) fun _ _ z => False.elim z)
      have I5' := I5.pinned (fpC fr5 (by simp)) (T.obj _ _ st5)
      have W5 := hg _ s5 _ H5 z u (fun σ' H' => σ' = some z :: vs.map some ∧ H' = H5) I5' r5 ⟨rfl, rfl⟩
      refine wpAny_mono W5 (fun _ s6 ⟨σ6, H6, I6, e6, e7⟩ => ?_) fun _ _ z => False.elim z
      subst e6 e7
      refine wpAny_mono (ht _ _ _ _ _ _ s6 _ H6 _ I6 (step z H6 y5)) (fun b s7 ⟨H7, I7, q7⟩ => ?_) fun _ _ z => False.elim z
      have again : ∀ {H8 : Hp} {s8 : Shared} {acc' : List V}, Inv (compCx X scope (x :: N) cl C { s2 with heap := s2.heap.push { cls := .type "list", data := .seq ([] : List Value).toArray }, toks := s2.toks } (upd H2 s2.heap.objs.size (.lst [])) fp) ([] ++ pinsAt fp s5.heap) (some z :: vs.map some) H8 s8 → (∃ m', m' < n ∧ W (i + 1) m' acc' H8) → ∃ m, m < n ∧ ∃ i acc σ' H', Inv (compCx X scope (x :: N) cl C { s2 with heap := s2.heap.push { cls := .type "list", data := .seq ([] : List Value).toArray }, toks := s2.toks } (upd H2 s2.heap.objs.size (.lst [])) fp) [] σ' H' s8 ∧ (∃ y, σ' = y :: vs.map some) ∧ tn i s8.heap ∧ (∀ b ∈ fp, H' b = none) ∧ W i m acc H' := fun {H8 s8 acc'} I8 ⟨m', hm, w8⟩ => by
        refine ⟨m', hm, i + 1, acc', _, H8, I8.unpinned, ⟨_, rfl⟩, T.keep _ _ _ st5 fun b hb o e => (I8.pin (b, o) (List.mem_append_right _ (List.mem_append_right _ (mem_pinsAt hb e)))).1, fun b hb => ?_, w8⟩
        obtain ⟨o, e, d⟩ := T.obj _ _ st5 b hb
        exact (I8.pin (b, o) (List.mem_append_right _ (List.mem_append_right _ (mem_pinsAt hb e)))).2.1
      cases b with
      | false => exact again I7 q7
      | true =>
        rw [if_pos rfl]
        refine wpAny_mono (he _ _ _ _ _ _ s7 _ H7 _ I7 q7) (fun v8 s8 ⟨x8, H8, I8, r8, hD8, hz8, q8⟩ => ?_) fun _ _ z => False.elim z
        refine wpAny_mono (mt_append (X := (compCx X scope (x :: N) cl C { s2 with heap := s2.heap.push { cls := .type "list", data := .seq ([] : List Value).toArray }, toks := s2.toks } (upd H2 s2.heap.objs.size (.lst [])) fp)) _ s8 _ H8 (.ref s2.heap.objs.size) [x8] (.ref s2.heap.objs.size) [v8] (fun _ H9 => H9 = upd H8 s2.heap.objs.size (.lst (acc ++ [x8]))) I8 rfl (.cons r8 .nil) ⟨_, acc, x8, rfl, rfl, hD8, hz8, rfl⟩) (fun _ s9 ⟨_, H9, I9, _, e9⟩ => ?_) fun _ _ z => False.elim z
        subst e9
        exact again I9 q8
  exact codeAny_compStart_list loop (T.self _ 0 _ _ _ st₁ loop)

def inner (sl : List Nat) (ρ : DEnv) (d : Dt) : DEnv := some (.is d) :: sl.map fun j => (ρ[j]?).join
structure DTs (X : Cx) (ifs : List Expr) (t : DTT) : Prop where
  mono : ∀ {ρ Q Q'}, (∀ d, Q d → Q' d) → t ρ Q → t ρ Q'
  pts : PTs X ifs (lT X.K t)
def dTrue : DTT := fun _ Q => Q true
theorem dts_nil : DTs X [] dTrue := ⟨fun hq h => hq _ h, fun pins s σ H Q I ⟨B, F, O, ρ, R, h⟩ => pts_nil pins s σ H Q I (h H (Same.refl H))⟩
theorem dts_one {c : Expr} {t : DTT} (h : DT X c t) : DTs X [c] t := ⟨h.mono, pts_one h.pt⟩
def caught (sl : List Nat) (ρ : DEnv) : Prop := ∀ j ∈ sl, ∃ d, ρ[j]? = some (some (.is d))
def dComp (sl : List Nat) (ti : DTI) (tt : DTT) (te : DTE) : DTE := fun ρ Q => ti ρ fun items => items.length ≤ sizeLine ∧ caught sl ρ ∧
  ∃ W : Nat → List Dt → Prop, W 0 [] ∧ (∀ (k : Nat) d acc, items[k]? = some d → W k acc → tt (inner sl ρ d) fun b => if b = true then te (inner sl ρ d) fun e => W (k + 1) (acc ++ [e]) else W (k + 1) acc) ∧
    ∀ acc, acc.length ≤ items.length → W items.length acc → Q (.lst acc)
theorem caught_vals {K : PySem.W.Frag} {B : Hp} {F O : List Addr} {H : Hp} {σ : St} {ρ : DEnv} (R : Rep K B F O H σ ρ) : ∀ {sl : List Nat}, caught sl ρ → ∃ vs ds, sl.map (fun j => σ[j]?) = vs.map (fun v => some (some v)) ∧ sl.map (fun j => (ρ[j]?).join) = ds.map (fun d => some (En.is d)) ∧ RpL K (mask (F ++ O) H) ds vs
  | [], _ => ⟨[], [], rfl, rfl, RpL.nil⟩
  | j :: sl, h => by
    obtain ⟨d, e⟩ := h j List.mem_cons_self
    obtain ⟨v, e1, e2⟩ := R.is j d e
    obtain ⟨vs, ds, h1, h2, h3⟩ := caught_vals R (sl := sl) fun k hk => h k (List.mem_cons_of_mem _ hk)
    exact ⟨v :: vs, d :: ds, by simp [e1, h1], by simp [e, h2], RpL.cons e2 h3⟩
theorem rep_inner {K : PySem.W.Frag} {F : List Addr} {H : Hp} {d : Dt} {v : V} {ds : List Dt} {vs : List V} (th : ∀ a ∈ F, H a ≠ none) (r : Rp K (mask F H) d v) (rs : RpL K (mask F H) ds vs) :
    Rep K (fun _ => none) F [] H (some v :: vs.map some) (some (.is d) :: ds.map fun d => some (En.is d)) := by
  have e : mask (F ++ []) H = mask F H := by rw [List.append_nil]
  have noown : ∀ (i : Nat) es, (some (En.is d) :: ds.map fun d => some (En.is d))[i]? = some (some (.own es)) → False := fun i es q => by
    cases i with
    | zero => cases q
    | succ j =>
      rw [List.getElem?_cons_succ, List.getElem?_map] at q
      cases z : ds[j]? with
      | none => rw [z] at q; cases q
      | some y => rw [z] at q; cases q
  refine ⟨by simp [rs.len], fun a o q => (nomatch q), fun a h => (nomatch h), fun a h => th a (by simpa using h), fun i y q => ?_, fun i es q => (noown i es q).elim, fun i j es es' a h1 => (noown i es h1).elim⟩
  rw [e]
  cases i with
  | zero => cases q; exact ⟨v, rfl, r⟩
  | succ j =>
    rw [List.getElem?_cons_succ, List.getElem?_map] at q
    cases z : ds[j]? with
    | none => rw [z] at q; cases q
    | some y' =>
      rw [z] at q; cases q
      obtain ⟨u, h1, h2⟩ := rs.get z
      exact ⟨u, by rw [List.getElem?_cons_succ, List.getElem?_map, h1]; rfl, h2⟩
theorem comp_imp {K : PySem.W.Frag} {sl : List Nat} {ti : DTI} {dt : DTT} {de : DTE} (mi : ∀ {ρ Q Q'}, (∀ d, Q d → Q' d) → ti ρ Q → ti ρ Q') (mt : ∀ {ρ Q Q'}, (∀ d, Q d → Q' d) → dt ρ Q → dt ρ Q') (me : ∀ {ρ Q Q'}, (∀ d, Q d → Q' d) → de ρ Q → de ρ Q')
    (σ : St) (H : Hp) (Q : VK) (h : lE K (dComp sl ti dt de) σ H Q) : tComp sl (lI K ti) (lT K dt) (lE K de) σ H Q := by
  obtain ⟨B, F, O, ρ, R, h⟩ := h
  refine ⟨B, F, O, ρ, R, mi (fun items ⟨h1, h2, W, w0, st, fin⟩ J H1 s1 it => ?_) h⟩
  have R1 := R.same s1
  obtain ⟨vs, ds, ev, ed, rs⟩ := caught_vals R1 h2
  refine ⟨vs, ev, fun D hD => ?_⟩
  have nD : D ∉ F ++ O := fun z => R1.th D z hD
  have sM : Same (mask (F ++ O) H1) (mask (F ++ O) (upd H1 D (.lst []))) := (Same.upd hD).mask
  refine ⟨fun i m acc H2 => m + i = items.length ∧ H2 D = some (.lst acc) ∧ acc.length ≤ i ∧ Same H1 H2 ∧ ∃ as, RpL K (mask (D :: (F ++ O)) H2) as acc ∧ W i as, ⟨items.length, by omega, upd_same, Nat.le_refl _, Same.upd hD, [], RpL.nil, w0⟩, ?_⟩
  rintro i m acc H2 ⟨hm, e2, hl, s2, as, ra, w⟩
  have sb : Same (mask (F ++ O) H1) H2 := fun a o e => s2 a o (mask_some e).2
  have sD : Same (mask (F ++ O) H1) (mask (D :: (F ++ O)) H2) := fun a o e => by
    obtain ⟨q, e⟩ := mask_some e
    rw [mask_out fun z => by
      rcases List.mem_cons.mp z with z | z
      · rw [z, hD] at e; cases e
      · exact q z]
    exact s2 a o e
  obtain ⟨go, stop⟩ := it H2 sb
  by_cases hlt : i < items.length
  · refine .inr ⟨(go i items[i] (by simp [hlt])).1, fun z H3 y => ?_⟩
    obtain ⟨e, r⟩ := (go i items[i] (by simp [hlt])).2 z H3 y
    subst e
    have th : ∀ a ∈ D :: (F ++ O), H3 a ≠ none := fun a ha q => by
      rcases List.mem_cons.mp ha with z | z
      · rw [z, e2] at q; cases q
      · have := R1.th a z
        cases q' : H1 a with
        | none => exact this q'
        | some o => rw [s2 a o q'] at q; cases q
    have R3 := rep_inner th (r.mono sD) (rs.mono sD)
    have ei : some (En.is items[i]) :: ds.map (fun d => some (En.is d)) = inner sl ρ items[i] := by unfold inner; rw [ed]
    rw [ei] at R3
    refine ⟨_, _, _, _, R3, mt (fun b q H4 s4 => ?_) (st i _ as (by simp [hlt]) w)⟩
    cases b with
    | false =>
      refine ⟨m - 1, by omega, by omega, s4 _ _ e2, by omega, s2.trans s4, as, ra.mono s4.mask, q⟩
    | true =>
      refine ⟨_, _, _, _, R3.same s4, me (fun e q v5 H5 s5 r5 => ?_) q⟩
      have e5 : H5 D = some (.lst acc) := s5 _ _ (s4 _ _ e2)
      have hz : acc.length < sizeLine := by omega
      have s6 : Same (mask (D :: (F ++ O)) H5) (mask (D :: (F ++ O)) (upd H5 D (.lst (acc ++ [v5])))) := fun a o q => by
        obtain ⟨n, q⟩ := mask_some q
        rw [mask_out n, upd_ne fun z => n (by rw [z]; exact List.mem_cons_self)]; exact q
      have em : mask (D :: (F ++ O) ++ []) H5 = mask (D :: (F ++ O)) H5 := by rw [List.append_nil]
      rw [em] at r5
      refine ⟨e5, hz, m - 1, by omega, by omega, upd_same, by simp; omega, fun a o q => ?_, as ++ [e], (((ra.mono s4.mask).mono s5.mask).append (RpL.cons r5 RpL.nil)).mono s6, q⟩
      rw [upd_ne (ne_of_none q hD)]
      exact s5 _ _ (s4 _ _ (s2 a o q))
  · have e : i = items.length := by omega
    subst e
    refine .inl ⟨stop, fin as (by rw [← ra.len]; exact hl) w (.ref D) H2 (s1.trans s2) (rp_lstI ⟨D, acc, rfl, (by rw [mask_out nD]; exact e2), ra.mono (mask_sub fun a h => List.mem_cons_of_mem _ h)⟩)⟩
theorem de_compG {ti : DTI} {dt : DTT} {de : DTE} (S : CompSide X scope x N sl) (hc : X.calm = true) (hi : DI X (.Name x px) iter ti) (ht : ∀ cl C s₀ H₀ ex, DTs (compCx X scope (x :: N) cl C s₀ H₀ ex) ifs dt) (he : ∀ cl C s₀ H₀ ex, DE (compCx X scope (x :: N) cl C s₀ H₀ ex) elt de)
    (hs : ∀ x, foldedSetIterable iter X.env x = pure x := by intro _; rfl) : DE X (.ListComp elt [⟨.Name x px, iter, ifs, 0⟩] scope pos) (dComp sl ti dt de) := by
  have mt : ∀ {ρ Q Q'}, (∀ d, Q d → Q' d) → dt ρ Q → dt ρ Q' := (ht [] 0 X.s₀ X.H₀ []).mono
  have me : ∀ {ρ Q Q'}, (∀ d, Q d → Q' d) → de ρ Q → de ρ Q' := (he [] 0 X.s₀ X.H₀ []).mono
  refine ⟨fun hq h => hi.mono (fun items ⟨h1, h2, W, w0, st, fin⟩ => ⟨h1, h2, W, w0, st, fun acc l w => hq _ (fin acc l w)⟩) h, ?_⟩
  refine (pe_comp (tt := lT X.K dt) (te := lE X.K de) S hc hi.pi (fun cl C s₀ H₀ ex => (ht cl C s₀ H₀ ex).pts) (fun cl C s₀ H₀ ex => (he cl C s₀ H₀ ex).pe) hs).imp (comp_imp (ti := ti) (dt := dt) (de := de) hi.mono mt me)
theorem de_comp {ti : DTI} {de : DTE} (S : CompSide X scope x N sl) (hc : X.calm = true) (hi : DI X (.Name x px) iter ti) (he : ∀ cl C s₀ H₀ ex, DE (compCx X scope (x :: N) cl C s₀ H₀ ex) elt de)
    (hs : ∀ x, foldedSetIterable iter X.env x = pure x := by intro _; rfl) : DE X (.ListComp elt [⟨.Name x px, iter, [], 0⟩] scope pos) (dComp sl ti dTrue de) := de_compG S hc hi (fun _ _ _ _ _ => dts_nil) he hs
theorem de_compI {c : Expr} {ti : DTI} {dt : DTT} {de : DTE} (S : CompSide X scope x N sl) (hc : X.calm = true) (hi : DI X (.Name x px) iter ti) (ht : ∀ cl C s₀ H₀ ex, DT (compCx X scope (x :: N) cl C s₀ H₀ ex) c dt) (he : ∀ cl C s₀ H₀ ex, DE (compCx X scope (x :: N) cl C s₀ H₀ ex) elt de)
    (hs : ∀ x, foldedSetIterable iter X.env x = pure x := by intro _; rfl) : DE X (.ListComp elt [⟨.Name x px, iter, [c], 0⟩] scope pos) (dComp sl ti dt de) := de_compG S hc hi (fun _ _ _ _ _ => dts_one (ht _ _ _ _ _)) he hs
end
end L2

namespace L2
open PySem PySem.Spec PyProof.Rows PySem.SeqAt

def compB (sc scope : Scope) (NN : List Str) (x : Str) (N : List Str) (sl : List Nat) : Bool :=
  decide (scope.names.lookup x = some .local) && decide (scope.kind = .function) && scope.names.all (fun y => decide (y.2 ≠ .cell)) && scope.names.all (fun y => decide (y.2 = .local → scope.names.lookup y.1 = some .local)) &&
    scope.names.all (fun y => decide (y.2 = .free → sc.names.lookup y.1 = some .cell)) && decide (x :: N).Nodup && decide (N.map some = sl.map (fun j => NN[j]?)) && N.all (fun n => decide (scope.names.lookup n = some .free))
theorem comp_side {X : Cx} {sc scope : Scope} {NN : List Str} {x : Str} {N : List Str} {sl : List Nat} (h1 : X.env.scope = sc) (h2 : X.N = NN) (h : compB sc scope NN x N sl = true) : CompSide X scope x N sl := by
  subst h1 h2
  unfold compB at h
  simp only [Bool.and_eq_true, decide_eq_true_eq, List.all_eq_true] at h
  obtain ⟨⟨⟨⟨⟨⟨⟨a, b⟩, c⟩, d⟩, e⟩, f⟩, g⟩, i⟩ := h
  exact ⟨a, b, c, d, e, f, g, i⟩

def Bt (n : Nat) (x : Int) : Prop := x.natAbs < 2 ^ n
theorem Bt.le {n m : Nat} {x : Int} (h : Bt n x) (l : n ≤ m) : Bt m x := Nat.lt_of_lt_of_le h (Nat.pow_le_pow_right (by decide) l)
theorem Bt.mul {n m : Nat} {x y : Int} (a : Bt n x) (b : Bt m y) : Bt (n + m) (x * y) := by
  unfold Bt at *
  rw [Int.natAbs_mul, Nat.pow_add]
  exact Nat.mul_lt_mul'' a b
theorem Bt.add {n m : Nat} {x y : Int} (a : Bt n x) (b : Bt m y) : Bt (max n m + 1) (x + y) := by
  have a' := a.le (Nat.le_max_left n m)
  have b' := b.le (Nat.le_max_right n m)
  unfold Bt at *
  rw [Nat.pow_succ]
  have := Int.natAbs_add_le x y
  omega
theorem Bt.neg {n : Nat} {x : Int} (a : Bt n x) : Bt n (-x) := by unfold Bt at *; rw [Int.natAbs_neg]; exact a
theorem Bt.sub {n m : Nat} {x y : Int} (a : Bt n x) (b : Bt m y) : Bt (max n m + 1) (x - y) := by rw [Int.sub_eq_add_neg]; exact a.add b.neg
theorem Bt.of_abs {n : Nat} {x : Int} (h : x.natAbs < 2 ^ n) : Bt n x := h
theorem Bt.of {n : Nat} {x : Int} (h1 : -(2 ^ n) < x) (h2 : x < 2 ^ n) : Bt n x := by
  unfold Bt
  have : ((x.natAbs : Nat) : Int) < ((2 ^ n : Nat) : Int) := by push_cast; omega
  omega
theorem Bt.mulOk {n m : Nat} {x y : Int} (a : Bt n x) (b : Bt m y) (hn : n ≤ 1048576 := by decide) (hm : m ≤ 1048576 := by decide) : IntMulOk x y :=
  IntMulOk.of_bits (intBits_le_iff.mpr (a.le hn)) (intBits_le_iff.mpr (b.le hm))
theorem Bt.divOk {n : Nat} {x y : Int} (a : Bt n y) (h : y ≠ 0) (hn : n ≤ 9000 := by decide) : CDv x y := ⟨h, a.le hn⟩
theorem Bt.zero : Bt 0 0 := by unfold Bt; decide
theorem Bt.one : Bt 1 1 := by unfold Bt; decide
end L2
namespace L2
open PySem PySem.Spec PyProof.Rows PySem.SeqAt
section
variable {a b c d e f : Dt} {r s : List Dt} {i j : Int} {k l : Bool} {n : Nat} {x y : Str}
theorem ixt0 : ixD 0 (.tup (a :: r)) = some a := rfl
theorem ixt1 : ixD 1 (.tup (a :: b :: r)) = some b := rfl
theorem ixt2 : ixD 2 (.tup (a :: b :: c :: r)) = some c := rfl
theorem ixt3 : ixD 3 (.tup (a :: b :: c :: d :: r)) = some d := rfl
theorem ixl0 : ixD 0 (.lst (a :: r)) = some a := rfl
theorem ixl1 : ixD 1 (.lst (a :: b :: r)) = some b := rfl
theorem ixl2 : ixD 2 (.lst (a :: b :: c :: r)) = some c := rfl
theorem ixl3 : ixD 3 (.lst (a :: b :: c :: d :: r)) = some d := rfl
theorem eq_ii : Dt.eq (.int i) (.int j) = decide (i = j) := by rw [Dt.eq]
theorem eq_bb : Dt.eq (.bl k) (.bl l) = (k == l) := by rw [Dt.eq]
theorem eq_ss : Dt.eq (.str x) (.str y) = (x == y) := by rw [Dt.eq]
theorem eq_nn : Dt.eq .non .non = true := by rw [Dt.eq]
theorem eq_ni : Dt.eq .non (.int i) = false := by simp [Dt.eq]
theorem eq_nt : Dt.eq .non (.tup r) = false := by simp [Dt.eq]
theorem eq_tn : Dt.eq (.tup r) .non = false := by simp [Dt.eq]
theorem eq_tt : Dt.eq (.tup r) (.tup s) = Dt.eqs r s := by rw [Dt.eq]
theorem eq_ll : Dt.eq (.lst r) (.lst s) = Dt.eqs r s := by rw [Dt.eq]
theorem eqs_nn : Dt.eqs [] [] = true := by rw [Dt.eqs]
theorem eqs_cc : Dt.eqs (a :: r) (b :: s) = (Dt.eq a b && Dt.eqs r s) := by rw [Dt.eqs]
theorem eqs_nc : Dt.eqs [] (b :: s) = false := by simp [Dt.eqs]
theorem eqs_cn : Dt.eqs (b :: s) [] = false := by simp [Dt.eqs]
theorem flat_i : Dt.flat n (.int i) = true := by cases n <;> rw [Dt.flat] <;> simp
theorem flat_b : Dt.flat n (.bl k) = true := by cases n <;> rw [Dt.flat] <;> simp
theorem flat_n : Dt.flat n .non = true := by cases n <;> rw [Dt.flat] <;> simp
theorem flat_t : Dt.flat (n + 1) (.tup r) = Dt.flats n r := by rw [Dt.flat]
theorem flat_l : Dt.flat (n + 1) (.lst r) = Dt.flats n r := by rw [Dt.flat]
theorem flat_t8 : Dt.flat 8 (.tup r) = Dt.flats 7 r := flat_t
theorem flat_l8 : Dt.flat 8 (.lst r) = Dt.flats 7 r := flat_l
theorem flat_t7 : Dt.flat 7 (.tup r) = Dt.flats 6 r := flat_t
theorem flat_l7 : Dt.flat 7 (.lst r) = Dt.flats 6 r := flat_l
theorem flat_t6 : Dt.flat 6 (.tup r) = Dt.flats 5 r := flat_t
theorem flats_n : Dt.flats n [] = true := by rw [Dt.flats]
theorem flats_c : Dt.flats n (a :: r) = (Dt.flat n a && Dt.flats n r) := by rw [Dt.flats]
theorem dstart_c {N : Str} {M : List Str} : dstart (N :: M) (a :: r) = some (.is a) :: dstart M r := by
  unfold dstart
  simp only [List.map_cons, List.length_cons, List.cons_append, Nat.add_sub_add_right]
theorem dstart_n {N : Str} {M : List Str} : dstart (N :: M) [] = none :: dstart M [] := by
  unfold dstart
  simp [List.replicate_succ]
theorem dstart_e : dstart [] [] = [] := rfl
theorem size_ok (h : n ≤ 1000) : n ≤ sizeLine := Nat.le_of_lt (small1000 h)
theorem isT_tt : isT "tuple" (.tup r) = true := rfl
theorem isT_ll : isT "list" (.lst r) = true := rfl
theorem isT_ii : isT "int" (.int i) = true := rfl
theorem isT_bi : isT "bool" (.int i) = false := rfl
theorem isT_ib : isT "int" (.bl k) = true := rfl
theorem isT_bb : isT "bool" (.bl k) = true := rfl
theorem isT_tn : isT "tuple" .non = false := rfl
theorem isT_in : isT "int" .non = false := rfl
theorem isT_it : isT "int" (.tup r) = false := rfl
theorem isT_bt : isT "bool" (.tup r) = false := rfl
theorem nf_i : noFn (.int i) = true := rfl
theorem nf_b : noFn (.bl k) = true := rfl
theorem nf_n : noFn .non = true := rfl
theorem nf_t : noFn (.tup r) = true := rfl
theorem nf_l : noFn (.lst r) = true := rfl
theorem nf_s : noFn (.str x) = true := rfl
theorem isB_t : isB true (.bl k) = k := by cases k <;> rfl
theorem isB_f : isB false (.bl k) = !k := by cases k <;> rfl
theorem isB_i : isB k (.int i) = false := rfl
theorem isB_n : isB k .non = false := rfl
theorem isB_tu : isB k (.tup r) = false := rfl
theorem isB_l : isB k (.lst r) = false := rfl
theorem isN_n : isN .non = true := rfl
theorem isN_i : isN (.int i) = false := rfl
theorem isN_b : isN (.bl k) = false := rfl
theorem isN_t : isN (.tup r) = false := rfl
theorem isN_l : isN (.lst r) = false := rfl
end
end L2
namespace L2
open PySem PySem.Spec PyProof.Rows PySem.SeqAt
theorem ifn {c : Bool} {A B : Prop} (h : c = true) (b : B) : if (!c) = true then A else B := by subst h; exact b
theorem ift {c : Bool} {A B : Prop} (h : c = true) (a : A) : if c = true then A else B := by subst h; exact a
theorem iff' {c : Bool} {A B : Prop} (h : c = false) (b : B) : if c = true then A else B := by subst h; exact b
theorem specF_of {τ : Type} {args : τ → List Dt} {pre : τ → Prop} {val : τ → Dt} {Q : Dt → Prop} (p : τ) (h : pre p) (k : Q (val p)) : specF args pre val (args p) Q := ⟨p, rfl, h, fun d e => by rw [e]; exact k⟩
theorem spec_of {τ : Type} {args : τ → List Dt} {pre : τ → Prop} {post : τ → Dt → Prop} {Q : Dt → Prop} (p : τ) (h : pre p) (k : ∀ d, post p d → Q d) : spec args pre post (args p) Q := ⟨p, rfl, h, k⟩
theorem comp_filter {sl : List Nat} {tt : DTT} {te : DTE} {ρ : DEnv} {Q : Dt → Prop} {items : List Dt} (p : Dt → Bool) (f : Dt → Dt) (ht : ∀ d ∈ items, ∀ R : Bool → Prop, R (p d) → tt (inner sl ρ d) R) (he : ∀ d ∈ items, p d = true → ∀ R : Dt → Prop, R (f d) → te (inner sl ρ d) R)
    (hq : Q (.lst ((items.filter p).map f))) : ∃ W : Nat → List Dt → Prop, W 0 [] ∧ (∀ (k : Nat) d acc, items[k]? = some d → W k acc → tt (inner sl ρ d) fun b => if b = true then te (inner sl ρ d) fun e => W (k + 1) (acc ++ [e]) else W (k + 1) acc) ∧
      ∀ acc, acc.length ≤ items.length → W items.length acc → Q (.lst acc) := by
  refine ⟨fun k acc => acc = ((items.take k).filter p).map f, by simp, fun k d acc e w => ?_, fun acc _ w => by rw [w, List.take_length]; exact hq⟩
  have hm := List.mem_of_getElem? e
  refine ht d hm _ ?_
  have ht := take_succ_filter p items k d e
  by_cases hp : p d = true
  · rw [if_pos hp]
    refine he d hm hp _ ?_
    show acc ++ [f d] = _
    rw [w, ht, if_pos hp]; simp
  · rw [if_neg hp]
    show acc = _
    rw [w, ht, if_neg hp]; simp
theorem comp_map {sl : List Nat} {te : DTE} {ρ : DEnv} {Q : Dt → Prop} {items : List Dt} (f : Dt → Dt) (he : ∀ d ∈ items, ∀ R : Dt → Prop, R (f d) → te (inner sl ρ d) R)
    (hq : Q (.lst (items.map f))) : ∃ W : Nat → List Dt → Prop, W 0 [] ∧ (∀ (k : Nat) d acc, items[k]? = some d → W k acc → dTrue (inner sl ρ d) fun b => if b = true then te (inner sl ρ d) fun e => W (k + 1) (acc ++ [e]) else W (k + 1) acc) ∧
      ∀ acc, acc.length ≤ items.length → W items.length acc → Q (.lst acc) :=
  comp_filter (fun _ => true) f (fun _ _ _ h => h) (fun d hm _ R h => he d hm R h) (by rw [List.filter_eq_self.mpr (fun _ _ => rfl)]; exact hq)
theorem dComp_filter {sl : List Nat} {ti : DTI} {tt : DTT} {te : DTE} {ρ : DEnv} {Q : Dt → Prop} (items : List Dt) (p : Dt → Bool) (f : Dt → Dt) (hi : ∀ R : List Dt → Prop, R items → ti ρ R) (hl : items.length ≤ sizeLine) (hc : caught sl ρ)
    (ht : ∀ d ∈ items, ∀ R : Bool → Prop, R (p d) → tt (inner sl ρ d) R) (he : ∀ d ∈ items, p d = true → ∀ R : Dt → Prop, R (f d) → te (inner sl ρ d) R) (hq : Q (.lst ((items.filter p).map f))) : dComp sl ti tt te ρ Q :=
  hi _ ⟨hl, hc, comp_filter p f ht he hq⟩
theorem dComp_map {sl : List Nat} {ti : DTI} {te : DTE} {ρ : DEnv} {Q : Dt → Prop} (items : List Dt) (f : Dt → Dt) (hi : ∀ R : List Dt → Prop, R items → ti ρ R) (hl : items.length ≤ sizeLine) (hc : caught sl ρ)
    (he : ∀ d ∈ items, ∀ R : Dt → Prop, R (f d) → te (inner sl ρ d) R) (hq : Q (.lst (items.map f))) : dComp sl ti dTrue te ρ Q :=
  hi _ ⟨hl, hc, comp_map f he hq⟩
theorem dFor_of {ti : DTI} {g : DTG} {tb : DTS} {D : DEnds} {ρ : DEnv} (items : List Dt) (hi : ∀ R : List Dt → Prop, R items → ti ρ R) (W : Nat → DEnv → Prop) (h0 : W 0 ρ)
    (hs : ∀ (k : Nat) d ρ', items[k]? = some d → W k ρ' → g d ρ' fun ρ2 => tb { D with nx := W (k + 1), ct := W (k + 1), bk := D.nx } ρ2) (he : ∀ ρ', W items.length ρ' → D.nx ρ') : dFor ti g tb D ρ := hi _ ⟨W, h0, hs, he⟩
theorem ints_get {ns : List Int} {k : Nat} {d : Dt} (h : (ns.map Dt.int)[k]? = some d) : ∃ n, ns[k]? = some n ∧ d = .int n := by
  rw [List.getElem?_map] at h
  cases e : ns[k]? with
  | none => rw [e] at h; cases h
  | some n => rw [e] at h; cases h; exact ⟨n, rfl, rfl⟩
theorem caught_nil {ρ : DEnv} : caught [] ρ := fun _ h => (nomatch h)
theorem caught_cons {j : Nat} {sl : List Nat} {ρ : DEnv} {d : Dt} (h : ρ[j]? = some (some (.is d))) (r : caught sl ρ) : caught (j :: sl) ρ := fun k hk => by
  rcases List.mem_cons.mp hk with e | e
  · subst e; exact ⟨d, h⟩
  · exact r k e
theorem ix_ints {ns : List Int} {k : Int} (h0 : 0 ≤ k) (h1 : k < ns.length) : ixD k (.lst (ns.map Dt.int)) = some (.int (ns.getD k.toNat 0)) := by
  obtain ⟨j, rfl⟩ := Int.eq_ofNat_of_zero_le h0
  have hj : j < ns.length := by omega
  show (ns.map Dt.int)[j]? = _
  rw [List.getElem?_map]
  simp [hj]
end L2
namespace L2
theorem seq_asg {te : DTE} {i : Nat} {u : DTS} {D : DEnds} {ρ : DEnv} (h : te ρ fun d => u D (ρ.set i (some (.is d)))) : dSeq (dAsg te (dgName i)) u D ρ := h
theorem while_of {c : DTT} {tb : DTS} {D : DEnds} {ρ : DEnv} (W : Nat → DEnv → Prop) (m : Nat) (h0 : W m ρ) (h : ∀ m ρ, W m ρ → c ρ fun k => if k = true then tb { D with nx := fun ρ' => ∃ m', m' < m ∧ W m' ρ', ct := fun ρ' => ∃ m', m' < m ∧ W m' ρ', bk := D.nx } ρ else D.nx ρ) : dWhile c tb D ρ := ⟨W, ⟨m, h0⟩, h⟩
end L2

namespace L2
open PySem PySem.Spec PyProof.Rows PySem.SeqAt

section
variable {X : Cx} {a b c e : Expr} {es : List Expr} {ta tb te : DTE} {tl : DTA} {pos : Pos}
def downs (hi : Int) (n : Nat) : List Dt := (List.range n).map fun i => .int (hi - (i : Nat))
def diRng3 (tl : DTA) : DTI := fun ρ Q => tl ρ fun ds => match ds with
  | [.int i, .int j, .int k] => k = -1 ∧ (-(2 ^ 62) ≤ i ∧ i < 2 ^ 62 ∧ -(2 ^ 62) ≤ j ∧ j < 2 ^ 62) ∧ Q (downs i (i - j).toNat)
  | _ => False
theorem mt_bits : MtR X "int.bit_length" (fun x xs H Q => ∃ i, x = .int i ∧ xs = [] ∧ Q (.int (Builtin.Int.intBits i)) H) := by
  intro pins s σ H x xs v us Q I rx rs ⟨i, e, e2, q⟩
  subst e e2
  cases rs
  obtain ⟨t, rfl⟩ := rx
  exact call_int_bit_length ⟨.int _, H, I.tok _, ⟨_, rfl⟩, q⟩
def dBits (ta : DTE) : DTE := fun ρ Q => ta ρ fun d => match d with
  | .int i => Q (.int (Builtin.Int.intBits i))
  | _ => False
theorem de_bits {apos : Pos} (ha : DE X a ta) (hbase : attributeBase a "bit_length" X.env (eval a X.env) = eval a X.env := by rfl) (hline : (apos.endLine == pos.line) = true := by rfl) : DE X (.Call (.Attribute a "bit_length" apos) [] [] pos) (dBits ta) where
  mono := fun hq h => ha.mono (fun d h => by
    split at h
    · exact hq _ h
    · exact h.elim) h
  pe := (pe_bm0 PySem.F.plainAttrs_int PySem.F.slot_int_bit_length PySem.F.type_int_bit_length mt_bits ha.pe hbase hline).imp fun σ H Q ⟨B, F, O, ρ, R, h⟩ => ⟨B, F, O, ρ, R, ha.mono (fun d h v H1 s1 r1 => by
    split at h
    · rw [rp_int.mp r1]
      exact ⟨rfl, _, rfl, rfl, h _ H1 s1 (rp_int.mpr rfl)⟩
    · exact h.elim) h⟩

def FnVal (P : Program) (w : World) (K : PySem.W.Frag) (mg : Str → Option Value) (base : Heap) (k : Nat) (a : Addr) (sp : DSp) : Prop :=
  ∃ fd ps, FnOk P w K mg base CX0 k a fd ps (lSp K sp) ∧ Binds K fd ps [] ∧ PySem.W.keepIn K (.ref a) = true
theorem Pm.val {P : Program} {w : World} {K : PySem.W.Frag} {mg : Str → Option Value} {base : Heap} {k : Nat} {x : Str} {st : Stmt} {ps : List Str} {sp : DSp} (h : Pm P w K mg base k x st ps sp) : ∃ a, mg x = some (.ref a) ∧ FnVal P w K mg base k a sp := by
  obtain ⟨f, fd, F, G⟩ := h
  exact ⟨f, F.mg, fd, ps, G, F.bd, F.fn.kp⟩
def dCallV (P : Program) (w : World) (K : PySem.W.Frag) (mg : Str → Option Value) (base : Heap) (k : Nat) (tf : DTE) (tl : DTA) : DTE := fun ρ Q => tf ρ fun d => match d with
  | .fn a => PySem.W.keepIn K (.ref a) = true ∧ tl ρ fun ds => ∃ sp, MonoSp sp ∧ FnVal P w K mg base k a sp ∧ sp ds Q
  | _ => False
def lF (K : PySem.W.Frag) (t : DTA) : TE := fun σ H Q => ∃ B F O ρ, Rep K B F O H σ ρ ∧ t ρ fun ds => ∀ p H' vs, Same H H' → H' p = some (.lst vs) → p ∉ F ++ O → RpL K (mask (F ++ O) H') ds vs → Q (.ref p) H'
structure DF (X : Cx) (e : Expr) (t : DTA) : Prop where
  mono : ∀ {ρ Q Q'}, (∀ d, Q d → Q' d) → t ρ Q → t ρ Q'
  pe : PE X e (lF X.K t)
def dOf (t : DTA) : DTE := fun ρ Q => t ρ fun ds => Q (.lst ds)
theorem DF.de {t : DTA} (h : DF X e t) : DE X e (dOf t) where
  mono := fun hq z => h.mono (fun _ z => hq _ z) z
  pe := h.pe.imp fun σ H Q ⟨B, F, O, ρ, R, z⟩ => ⟨B, F, O, ρ, R, h.mono (fun ds z p H' vs s e n r => z (.ref p) H' s (rp_lstI ⟨p, vs, rfl, (by rw [mask_out n]; exact e), r⟩)) z⟩
def dLstF (tl : DTA) : DTA := fun ρ Q => tl ρ fun ds => ds.length ≤ sizeLine ∧ Q ds
theorem df_lst (h : DA X es tl) : DF X (.List es pos) (dLstF tl) where
  mono := fun hq z => h.mono (fun ds q => ⟨q.1, hq _ q.2⟩) z
  pe := (pe_lst h.pa).imp fun σ H Q ⟨B, F, O, ρ, R, q⟩ => ⟨B, F, O, ρ, R, h.mono (fun ds z vs H1 s1 r1 => ⟨by rw [r1.len]; exact z.1, fun p hp => by
    have np : p ∉ F ++ O := fun m => (R.same s1).th p m hp
    exact z.2 p _ vs (s1.trans (Same.upd hp)) upd_same np (r1.mono (Same.upd hp).mask)⟩) q⟩
def dSliceF (te : DTE) (tl th : DTO) : DTA := fun ρ Q => te ρ fun d => tl ρ fun lo => th ρ fun hi => match d with
  | .lst ds => Q (cutD ds lo hi)
  | _ => False
def dCatF (t u : DTA) : DTA := fun ρ Q => t ρ fun xs => u ρ fun ys => xs.length + ys.length ≤ sizeLine ∧ Q (xs ++ ys)
theorem df_cat {t u : DTA} (ha : DF X a t) (hb : DF X b u) : DF X (.BinOp a .Add b pos) (dCatF t u) where
  mono := fun hq z => ha.mono (fun _ z => hb.mono (fun _ z => ⟨z.1, hq _ z.2⟩) z) z
  pe := (pe_op op_cat ha.pe hb.pe).imp fun σ H Q ⟨B, F, O, ρ, R, z⟩ => ⟨B, F, O, ρ, R, ha.mono (fun xs z p H1 vs s1 e1 n1 r1 => ⟨B, F, O, ρ, R.same s1, hb.mono (fun ys z p2 H2 ws s2 e2 n2 r2 => by
    refine ⟨p, p2, vs, ws, rfl, rfl, s2 _ _ e1, e2, by rw [r1.len, r2.len]; exact z.1, fun l hl => ?_⟩
    have np : l ∉ F ++ O := fun m => ((R.same s1).same s2).th l m hl
    exact z.2 l _ _ ((s1.trans s2).trans (Same.upd hl)) upd_same np (((r1.mono s2.mask).append r2).mono (Same.upd hl).mask)) z⟩) z⟩
end
end L2

namespace L2
open PySem PySem.Spec PyProof.Rows PySem.SeqAt
section
variable {X : Cx} {elt iter : Expr} {x : Str} {px : Pos} {ifs : List Expr} {scope : Scope} {pos : Pos} {N : List Str} {sl : List Nat} {wi : TI} {tt : TT} {te : TE}
theorem comp_block {pins : List (Addr × Obj)} {σ : St} {H2 : Hp} {s2 : Shared} {cl : List (Str × Addr)} {it : Addr} {fp : List Addr} {tn : Nat → Heap → Prop} {J : It} {vs : List V} {PP : Value → Addr → Result → Shared → Prop} {E : Value → Shared → Prop} {QD : Hp → Prop} (S : CompSide X scope x N sl) (hc : X.calm = true)
    (ht : ∀ cl C s₀ H₀ ex, PTs (compCx X scope (x :: N) cl C s₀ H₀ ex) ifs tt) (he : ∀ cl C s₀ H₀ ex, PE (compCx X scope (x :: N) cl C s₀ H₀ ex) elt te)
    (hcl : ∀ n c, cl.lookup n = some c → X.env.cells.lookup n = some c) (hcl2 : ∀ n, (n, NameKind.free) ∈ scope.names → ∃ c, cl.lookup n = some c)
    (I2 : Inv X pins σ H2 s2) (T : Turn X.prog X.w X.K (.Name x px) J fp it tn) (st2 : tn 0 s2.heap) (f2 : ∀ b ∈ fp, FpOk X pins H2 b) (hvs : sl.map (fun j => σ[j]?) = vs.map (fun v => some (some v)))
    (hW : ∃ W : Nat → Nat → List V → Hp → Prop, (∃ m, W 0 m [] (upd H2 s2.heap.objs.size (.lst []))) ∧ ∀ i m acc H, W i m acc H →
      (J.stop i H ∧ QD H) ∨ (J.go i H ∧ ∀ x H', J.yld i H x H' → tt (some x :: vs.map some) H' fun b H2' =>
        if b = true then te (some x :: vs.map some) H2' fun y H3 => H3 s2.heap.objs.size = some (.lst acc) ∧ acc.length < sizeLine ∧ ∃ m', m' < m ∧ W (i + 1) m' (acc ++ [y]) (upd H3 s2.heap.objs.size (.lst (acc ++ [y])))
        else ∃ m', m' < m ∧ W (i + 1) m' acc H2'))
    (fin : ∀ (C : Addr), (s2.heap.push { cls := .type "list", data := .seq ([] : List Value).toArray }).objs.size = C → ∀ {σ' : St} {H' : Hp} {s' : Shared}, Inv (compCx X scope (x :: N) cl C { s2 with heap := s2.heap.push { cls := .type "list", data := .seq ([] : List Value).toArray }, toks := s2.toks } (upd H2 s2.heap.objs.size (.lst [])) fp) [] σ' H' s' → QD H' → PP (.ref s2.heap.objs.size) C (.ok .next) s') :
    wpAny (model X.prog X.w) X.A (newList []) (fun acc s₃ => wpAny (model X.prog X.w) X.A (newFunctionEnv scope X.env.globals cl [] X.env.qual none .none (some X.env)) (fun cenv s₄ =>
      codeAny (model X.prog X.w) X.A (.compStart (.ListComp elt [⟨.Name x px, iter, ifs, 0⟩] scope pos) 0 (.ref it) acc { cenv with scope := relabel scope X.env }) (PP acc cenv.locals) s₄) E s₃) E s2 := by
  refine wpAny_newObj_type (wpAny_newFunctionEnv S.cell (by intro y hy; simp at hy) (fun h₁ hns₁ hsb₁ => ?_) S.kind)
  have hD : H2 s2.heap.objs.size = none := I2.fresh
  have I3 : Inv X pins σ (upd H2 s2.heap.objs.size (.lst [])) { s2 with heap := s2.heap.push { cls := .type "list", data := .seq ([] : List Value).toArray }, toks := s2.toks } := I2.lnew (its := []) (ys := []) .nil (Nat.zero_le _)
  have hbD : ∀ b ∈ fp, b ≠ s2.heap.objs.size := fun b hb z => by
    obtain ⟨o', e', _⟩ := T.obj _ _ st2 b hb
    exact absurd (Heap.lt_size e') (by rw [z]; exact Nat.lt_irrefl _)
  have f3 : ∀ b ∈ fp, FpOk X pins (upd H2 s2.heap.objs.size (.lst [])) b := fun b hb => ⟨by rw [upd_ne (hbD b hb)]; exact (f2 b hb).1, (f2 b hb).2⟩
  have ob3 : ∀ b ∈ fp, ∃ o, (s2.heap.push { cls := .type "list", data := .seq ([] : List Value).toArray }).get? b = some o := fun b hb => by
    obtain ⟨o', e', _⟩ := T.obj _ _ st2 b hb
    exact ⟨o', Heap.get?_push_of_some _ e'⟩
  have IC := comp_inv (tk := s2.toks + ([] : List (Str × Value)).length) S I3 f3 ob3 hns₁ hsb₁ hcl hcl2 hvs
  dsimp only at hsb₁ IC ⊢
  generalize hCC : (s2.heap.push { cls := .type "list", data := .seq ([] : List Value).toArray }).objs.size = C at hns₁ hsb₁ IC ⊢
  have old : ∀ b o, s2.heap.get? b = some o → h₁.get? b = some o := fun b o e => by
    have e1 : (s2.heap.push { cls := .type "list", data := .seq ([] : List Value).toArray }).get? b = some o := Heap.get?_push_of_some _ e
    exact (hsb₁.2 b (by rw [← hCC]; exact Nat.ne_of_lt (Heap.lt_size e1))).trans (Heap.get?_push_of_some _ e1)
  have st₁ : tn 0 h₁ := T.keep _ _ _ st2 fun b hb o e => old b o e
  obtain ⟨W, ⟨m0, w0⟩, turn⟩ := hW
  have fpC : ∀ {H' : Hp} {pl : List (Addr × Obj)}, (∀ b ∈ fp, H' b = none) → (∀ p ∈ pl, p.1 ∉ fp) → ∀ b ∈ fp, FpOk (compCx X scope (x :: N) cl C { s2 with heap := s2.heap.push { cls := .type "list", data := .seq ([] : List Value).toArray }, toks := s2.toks } (upd H2 s2.heap.objs.size (.lst [])) fp) pl H' b := fun {H' pl} hn hp b hb => by
    refine ⟨hn b hb, (IC.ok.exf b hb).1, IC.ok.exfs b hb, .inl hb, (IC.ok.exf b hb).2, fun p hq z => ?_⟩
    have hq' : p ∈ pl := by simpa [compCx] using hq
    exact hp p hq' (by rw [z]; exact hb)
  have loop : codeAny (model X.prog X.w) X.A (.compLoop (.ListComp elt [⟨.Name x px, iter, ifs, 0⟩] scope pos) 0 (.ref it) (.ref s2.heap.objs.size) (compEnvC scope cl C X.env)) (PP (.ref s2.heap.objs.size) C)
      { s2 with heap := h₁, toks := s2.toks + ([] : List (Str × Value)).length } := by
    refine codeAny_compLoop_tests (fun n s' => ∃ i acc σ' H', Inv (compCx X scope (x :: N) cl C { s2 with heap := s2.heap.push { cls := .type "list", data := .seq ([] : List Value).toArray }, toks := s2.toks } (upd H2 s2.heap.objs.size (.lst [])) fp) [] σ' H' s' ∧ (∃ y, σ' = y :: vs.map some) ∧
      tn i s'.heap ∧ (∀ b ∈ fp, H' b = none) ∧ W i n acc H') ?_ m0 ⟨0, [], _, _, IC, ⟨none, rfl⟩, st₁, fun b hb => (f3 b hb).1, w0⟩
    rintro n s3 ⟨i, acc, σ3, H3, I4, ⟨y, rfl⟩, st3, fr3, w3⟩
    rcases turn i n acc H3 w3 with ⟨stop, qn⟩ | ⟨go, step⟩
    · refine wpAny_mono (T.done (compCx X scope (x :: N) cl C { s2 with heap := s2.heap.push { cls := .type "list", data := .seq ([] : List Value).toArray }, toks := s2.toks } (upd H2 s2.heap.objs.size (.lst [])) fp) rfl rfl rfl hc i [] s3 _ H3 (fun _ _ => False) I4 (fpC fr3 (by simp)) st3 stop) (fun r s4 ⟨hr, I5⟩ => ?_) fun _ _ z => False.elim z
      subst hr
      exact fin C hCC I5 qn
    · refine wpAny_mono (T.item (compCx X scope (x :: N) cl C { s2 with heap := s2.heap.push { cls := .type "list", data := .seq ([] : List Value).toArray }, toks := s2.toks } (upd H2 s2.heap.objs.size (.lst [])) fp) rfl rfl rfl hc i [] s3 _ H3 (fun _ _ => False) I4 (fpC fr3 (by simp)) st3 go) (fun r s4 ⟨u, hr, h4⟩ => ?_) fun _ _ z => False.elim z
      subst hr
      have e0 : ∀ (k : Unit → Sem Unit), (letOwnedTupleGo (.Name x px) (.ref it) u >>= k) = k () := fun k => rfl
      have hg : PG (compCx X scope (x :: N) cl C { s2 with heap := s2.heap.push { cls := .type "list", data := .seq ([] : List Value).toArray }, toks := s2.toks } (upd H2 s2.heap.objs.size (.lst [])) fp) (.Name x px) (gName 0) := pg_name S.nd rfl (.inl (lookup_relabel_local S.hx)) (.inr (lookup_relabel_local S.hx))
      show wpAny (model X.prog X.w) X.A (assign (.Name x px) (compEnvC scope cl C X.env) u) _ _ s4
      rw [← e0 fun _ => assign (.Name x px) (compEnvC scope cl C X.env) u]
      refine wpAny_bind (wpAny_mono h4 (fun _ s5 ⟨z, H5, I5, r5, y5, st5, fr5⟩ => ?_) fun _ _ z => False.elim z)
      have I5' := I5.pinned (fpC fr5 (by simp)) (T.obj _ _ st5)
      have W5 := hg _ s5 _ H5 z u (fun σ' H' => σ' = some z :: vs.map some ∧ H' = H5) I5' r5 ⟨rfl, rfl⟩
      refine wpAny_mono W5 (fun _ s6 ⟨σ6, H6, I6, e6, e7⟩ => ?_) fun _ _ z => False.elim z
      subst e6 e7
      refine wpAny_mono (ht _ _ _ _ _ _ s6 _ H6 _ I6 (step z H6 y5)) (fun b s7 ⟨H7, I7, q7⟩ => ?_) fun _ _ z => False.elim z
      have again : ∀ {H8 : Hp} {s8 : Shared} {acc' : List V}, Inv (compCx X scope (x :: N) cl C { s2 with heap := s2.heap.push { cls := .type "list", data := .seq ([] : List Value).toArray }, toks := s2.toks } (upd H2 s2.heap.objs.size (.lst [])) fp) ([] ++ pinsAt fp s5.heap) (some z :: vs.map some) H8 s8 → (∃ m', m' < n ∧ W (i + 1) m' acc' H8) → ∃ m, m < n ∧ ∃ i acc σ' H', Inv (compCx X scope (x :: N) cl C { s2 with heap := s2.heap.push { cls := .type "list", data := .seq ([] : List Value).toArray }, toks := s2.toks } (upd H2 s2.heap.objs.size (.lst [])) fp) [] σ' H' s8 ∧ (∃ y, σ' = y :: vs.map some) ∧ tn i s8.heap ∧ (∀ b ∈ fp, H' b = none) ∧ W i m acc H' := fun {H8 s8 acc'} I8 ⟨m', hm, w8⟩ => by
        refine ⟨m', hm, i + 1, acc', _, H8, I8.unpinned, ⟨_, rfl⟩, T.keep _ _ _ st5 fun b hb o e => (I8.pin (b, o) (List.mem_append_right _ (List.mem_append_right _ (mem_pinsAt hb e)))).1, fun b hb => ?_, w8⟩
        obtain ⟨o, e, d⟩ := T.obj _ _ st5 b hb
        exact (I8.pin (b, o) (List.mem_append_right _ (List.mem_append_right _ (mem_pinsAt hb e)))).2.1
      cases b with
      | false => exact again I7 q7
      | true =>
        rw [if_pos rfl]
        refine wpAny_mono (he _ _ _ _ _ _ s7 _ H7 _ I7 q7) (fun v8 s8 ⟨x8, H8, I8, r8, hD8, hz8, q8⟩ => ?_) fun _ _ z => False.elim z
        refine wpAny_mono (mt_append (X := (compCx X scope (x :: N) cl C { s2 with heap := s2.heap.push { cls := .type "list", data := .seq ([] : List Value).toArray }, toks := s2.toks } (upd H2 s2.heap.objs.size (.lst [])) fp)) _ s8 _ H8 (.ref s2.heap.objs.size) [x8] (.ref s2.heap.objs.size) [v8] (fun _ H9 => H9 = upd H8 s2.heap.objs.size (.lst (acc ++ [x8]))) I8 rfl (.cons r8 .nil) ⟨_, acc, x8, rfl, rfl, hD8, hz8, rfl⟩) (fun _ s9 ⟨_, H9, I9, _, e9⟩ => ?_) fun _ _ z => False.elim z
        subst e9
        exact again I9 q8
  exact codeAny_compStart_list loop (T.self _ 0 _ _ _ st₁ loop)
def tSetC (i : Nat) (sl : List Nat) (wi : TI) (tt : TT) (te : TE) : TS := fun D σ H => tComp sl wi tt te σ H fun v H' => D.nx (σ.set i (some v)) H'
theorem ps_setC {i : Nat} {y : Str} {py spos : Pos} (S : CompSide X scope x N sl) (hc : X.calm = true) (hN : X.N.Nodup) (hyi : X.N[i]? = some y) (hy : X.env.scope.names.lookup y = some .local) (hi : PI X (.Name x px) iter wi)
    (ht : ∀ cl C s₀ H₀ ex, PTs (compCx X scope (x :: N) cl C s₀ H₀ ex) ifs tt) (he : ∀ cl C s₀ H₀ ex, PE (compCx X scope (x :: N) cl C s₀ H₀ ex) elt te)
    (hsw : swapsWith (.ListComp elt [⟨.Name x px, iter, ifs, 0⟩] scope pos) (some (.Name y py)) spos.line X.env = pure true) (hs : ∀ x, foldedSetIterable iter X.env x = pure x := by intro _; rfl) :
    PS X (.Assign [.Name y py] (.ListComp elt [⟨.Name x px, iter, ifs, 0⟩] scope pos) spos) (tSetC i sl wi tt te) := by
  intro pins s σ H DD I h
  obtain ⟨cl, hclos, hcl, hcl2⟩ := closure_of (env := X.env) (scope := scope) fun y hy hf => I.ok.has y.1 (.inl (S.free y hy hf))
  rw [exec_Assign_Name_used _ _ _ _ hsw]
  refine wpAny_bind (wpAny_standAt (wpAny_bind ?_))
  show wpAny _ X.A (do let _ ← comprehension (.ListComp elt [⟨.Name x px, iter, ifs, 0⟩] scope pos) scope X.env _ (newList []) false (eval iter X.env) (some (assign (.Name y py) X.env))) _ _ s
  refine wpAny_bind (wpAny_mono (wpAny_comprehension_free (use := some (assign (.Name y py) X.env)) (Q := fun _ s' => SP X pins DD .next s') rfl hs hclos S.kind S.names
    (thn (hi pins s σ H _ I h) fun v s1 h1 => thn h1 fun itv s2 h2 => ?_)) (fun _ s' hq => wpAny_pure (wpAny_pure hq)) fun _ _ e => e)
  obtain ⟨it, fp, tn, J, H2, e, I2, T, st2, f2, vs, hvs, hW⟩ := h2
  subst e
  refine comp_block (QD := fun H' => DD.nx (σ.set i (some (.ref s2.heap.objs.size))) H') (PP := fun acc C => compPost (model X.prog X.w) X.A X.xe (some (assign (.Name y py) X.env)) (fun _ s' => SP X pins DD .next s') acc C) S hc ht he hcl hcl2 I2 T st2 f2 hvs (hW s2.heap.objs.size I2.fresh) fun C hCC {σ' H' s'} J q => ?_
  have hD : H2 s2.heap.objs.size = none := I2.fresh
  have nC : ∀ b o, s2.heap.get? b = some o → b ≠ C := fun b o e => by
    have e1 : (s2.heap.push { cls := .type "list", data := .seq ([] : List Value).toArray }).get? b = some o := Heap.get?_push_of_some _ e
    rw [← hCC]; exact Nat.ne_of_lt (Heap.lt_size e1)
  have u : Un (frs X.stack) fp H2 H' s2.heap s'.heap := (Un.laid (fun b u e => Heap.get?_push_of_some _ e) (Nat.le_refl _) hD).trans J.base
  have hos : s'.os = s2.os := J.os
  have IX : Inv X pins σ H' s' := I2.call' (ch := fp) hos u J.hok J.bare fun b hb => ⟨(f2 b hb).2.2.2.1, (f2 b hb).2.1, (f2 b hb).2.2.2.2.1, (f2 b hb).2.2.2.2.2⟩
  have hLC : X.env.locals ≠ C := by
    obtain ⟨m, ⟨o, _, _, ho, _⟩, _⟩ := I2.loc
    exact nC _ o ho
  have hcC : ∀ y c, X.env.cells.lookup y = some c → c ≠ C := fun y c e => by
    obtain ⟨v, o, ho, _⟩ := I2.cell y c e
    exact nC _ o ho
  show wpAny _ X.A (assign (.Name y py) X.env (.ref s2.heap.objs.size)) _ _ _
  refine wpAny_assign_Name (store_ok2 IX hN hyi (.inl hy) (v := .ref s2.heap.objs.size) rfl (fun s'' I'' ⟨a, hs2, ha⟩ => ?_) (.inr hy))
  obtain ⟨m, hn, _⟩ := id J.loc
  have haC : C ≠ a := by
    rcases ha with z | z
    · rw [z]; exact Ne.symm hLC
    · exact Ne.symm (hcC y a z)
  refine ⟨m, hn.sameBut hs2 haC, fun h' hs' => ⟨_, H', ?_, q⟩⟩
  refine I''.turned (t' := s''.toks) (it := C) (fun b o hb e => (hs'.2 b hb).trans e) J.free (Ne.symm hLC) (.inr ?_) hcC (fun p hp z => ?_)
  · rw [← hCC]
    exact Nat.le_trans I2.sz (by rw [Heap.size_push]; exact Nat.le_succ _)
  · obtain ⟨e, _⟩ := I2.pin p hp
    exact nC _ _ e z

theorem comp_mono {sl : List Nat} {ti : DTI} {dt : DTT} {de : DTE} (mi : ∀ {ρ Q Q'}, (∀ d, Q d → Q' d) → ti ρ Q → ti ρ Q') : ∀ {ρ Q Q'}, (∀ d, Q d → Q' d) → dComp sl ti dt de ρ Q → dComp sl ti dt de ρ Q' :=
  fun hq h => mi (fun items ⟨h1, h2, W, w0, st, fin⟩ => ⟨h1, h2, W, w0, st, fun acc l w => hq _ (fin acc l w)⟩) h
def dSetC (i : Nat) (sl : List Nat) (ti : DTI) (tt : DTT) (te : DTE) : DTS := fun D ρ => dComp sl ti tt te ρ fun d => D.nx (ρ.set i (some (.is d)))
theorem ds_setCG {ti : DTI} {dt : DTT} {de : DTE} {y : Str} {py spos : Pos} (i : Nat) (S : CompSide X scope x N sl) (hc : X.calm = true) (hN : X.N.Nodup) (hyi : X.N[i]? = some y) (hy : X.env.scope.names.lookup y = some .local) (hi : DI X (.Name x px) iter ti)
    (ht : ∀ cl C s₀ H₀ ex, DTs (compCx X scope (x :: N) cl C s₀ H₀ ex) ifs dt) (he : ∀ cl C s₀ H₀ ex, DE (compCx X scope (x :: N) cl C s₀ H₀ ex) elt de)
    (hsw : swapsWith (.ListComp elt [⟨.Name x px, iter, ifs, 0⟩] scope pos) (some (.Name y py)) spos.line X.env = pure true) (hs : ∀ x, foldedSetIterable iter X.env x = pure x := by intro _; rfl) :
    DS X (.Assign [.Name y py] (.ListComp elt [⟨.Name x px, iter, ifs, 0⟩] scope pos) spos) (dSetC i sl ti dt de) where
  mono := fun hd h => comp_mono (ti := ti) hi.mono (fun d q => hd.nx _ q) h
  ps := (ps_setC (tt := lT X.K dt) (te := lE X.K de) S hc hN hyi hy hi.pi (fun cl C s₀ H₀ ex => (ht cl C s₀ H₀ ex).pts) (fun cl C s₀ H₀ ex => (he cl C s₀ H₀ ex).pe) hsw hs).imp fun D σ H ⟨B, F, O, ρ, R, h⟩ =>
    comp_imp (ti := ti) (dt := dt) (de := de) hi.mono (ht [] 0 X.s₀ X.H₀ []).mono (he [] 0 X.s₀ X.H₀ []).mono σ H _ ⟨B, F, O, ρ, R, comp_mono (ti := ti) hi.mono (fun d q v H' s r => q O _ H' ((R.same s).set i r)) h⟩
theorem ds_setC {ti : DTI} {de : DTE} {y : Str} {py spos : Pos} (i : Nat) (hN : X.N.Nodup) (S : CompSide X scope x N sl) (hc : X.calm = true) (hi : DI X (.Name x px) iter ti) (he : ∀ cl C s₀ H₀ ex, DE (compCx X scope (x :: N) cl C s₀ H₀ ex) elt de)
    (hyi : X.N[i]? = some y := by rfl) (hy : X.env.scope.names.lookup y = some .local := by rfl) (hsw : swapsWith (.ListComp elt [⟨.Name x px, iter, [], 0⟩] scope pos) (some (.Name y py)) spos.line X.env = pure true := by rfl) (hs : ∀ x, foldedSetIterable iter X.env x = pure x := by intro _; rfl) :
    DS X (.Assign [.Name y py] (.ListComp elt [⟨.Name x px, iter, [], 0⟩] scope pos) spos) (dSetC i sl ti dTrue de) := ds_setCG i S hc hN hyi hy hi (fun _ _ _ _ _ => dts_nil) he hsw hs
end

section
variable {prog : Program} {w : World} {A : Around} {E : Value → Shared → Prop} {s : Shared}
end
section
variable {X : Cx} {es : List Expr} {pos : Pos}
def dgLst (n : Nat) (gs : DTGs) : DTG := fun d ρ Q => match d with
  | .lst ds => ds.length = n ∧ gs ds ρ Q
  | _ => False
end
end L2
namespace L2
end L2
namespace L2
theorem flat_s {n : Nat} {x : PySem.Str} : Dt.flat n (.str x) = (PySem.PyData.str x).canLay0 := by cases n <;> rw [Dt.flat]
end L2

namespace L2
open PySem PySem.Spec PyProof.Rows PySem.SeqAt

def exF (a C dx : Addr) (h : Heap) : Prop := ∃ vs sl, h.get? a = some ⟨.ref C, some dx, .fields vs, sl⟩ ∧ vs[1]? = some .none ∧ dx ≠ a
theorem exF.ex {a C dx : Addr} {h : Heap} (x : exF a C dx h) : exO a C dx h := let ⟨vs, sl, e, _, r⟩ := x; ⟨_, vs, e, rfl, rfl, rfl, r⟩

section
variable {X : Cx} {pins : List (Addr × Obj)} {σ : St} {H : Hp} {s : Shared} {h' : Heap} {a dx C U f fI : Addr} {φ ψ : Heap → Prop}
theorem Inv.again (I : Inv X pins σ H s) (Ha : H a = some (.ext φ)) (n : ψ s.heap) (st : ∀ h1 h2 : Heap, ψ h1 → (∀ o, h1.get? a = some o → h2.get? a = some o) → ψ h2) : Inv X pins σ (upd H a (.ext ψ)) s := by
  obtain ⟨_, th, _⟩ := I.hok a _ Ha
  exact I.write (t' := s.toks) (h' := s.heap) (by rw [Ha]; exact True.intro) (.inl rfl) (fun _ _ _ e => e) th ⟨n, th, st⟩

end
end L2

namespace L2
open PySem PySem.Spec PyProof.Rows PySem.SeqAt

structure DEndsX where
  d : DEnds
  ex : DEnv → Dt → Prop
abbrev DTSX := DEndsX → DEnv → Prop
abbrev DTEX := DEnv → (Dt → Prop) → (Dt → Prop) → Prop
structure DEndsX.le (D D' : DEndsX) : Prop where
  d : DEnds.le D.d D'.d
  ex : ∀ ρ x, D.ex ρ x → D'.ex ρ x
section
variable {X : Cx} {a b c e : Expr} {es : List Expr} {st : Stmt} {sts sa sb : List Stmt} {t u : DTSX} {ts us : DTS} {te : DTEX} {tA : DTT} {tl : DTA} {pos : Pos}
theorem PS.nox {st : Stmt} {t : TS} (h : PS X.nox st t) : PS X st t := fun pins s σ H D I hw =>
  wpAny_mono (h pins s σ H D (I.wish _) hw) (fun _ _ q => q.unwish) fun _ _ z => False.elim z
def dQuiet (t : DTS) : DTSX := fun D ρ => t D.d ρ
def dNextX : DTSX := fun D ρ => D.d.nx ρ
def dSeqX (t u : DTSX) : DTSX := fun D ρ => t ⟨{ D.d with nx := u D }, D.ex⟩ ρ
def dIfX (c : DTT) (t u : DTSX) : DTSX := fun D ρ => c ρ fun k => if k = true then t D ρ else u D ρ
def dDropX (te : DTEX) : DTSX := fun D ρ => te ρ (fun _ => D.d.nx ρ) (D.ex ρ)
def dRetX (te : DTEX) : DTSX := fun D ρ => te ρ D.d.rt (D.ex ρ)
def dAsgX (te : DTEX) (g : DTG) : DTSX := fun D ρ => te ρ (fun d => g d ρ D.d.nx) (D.ex ρ)
abbrev DSpX := List Dt → (Dt → Prop) → (Dt → Prop) → Prop
def lSpX (K : PySem.W.Frag) (sp : DSpX) : Sp := fun vs H Q E => ∃ F ds, (∀ a ∈ F, H a ≠ none) ∧ RpL K (mask F H) ds vs ∧ sp ds (fun d => ∀ v H', Same H H' → Rp K (mask F H') d v → Q v H') (fun x => ∀ a H', Same H H' → Rp K (mask F H') x (.ref a) → E (.ref a) none H')
def MonoX (sp : DSpX) : Prop := ∀ ds Q Q' E E', (∀ d, Q d → Q' d) → (∀ d, E d → E' d) → sp ds Q E → sp ds Q' E'
def dCallX (sp : DSpX) (tl : DTA) : DTEX := fun ρ Q E => tl ρ fun ds => sp ds Q E
def PmX (P : Program) (w : World) (K : PySem.W.Frag) (mg : Str → Option Value) (base : Heap) (k : Nat) (x : Str) (st : Stmt) (ps : List Str) (sp : DSpX) : Prop :=
  ∃ f fd, FnT K mg x st ps f fd ∧ FnOk P w K mg base (CXe P w) k f fd ps (lSpX K sp)
theorem PmX.pm {P : Program} {w : World} {K : PySem.W.Frag} {mg : Str → Option Value} {base : Heap} {k : Nat} {x : Str} {st : Stmt} {ps : List Str} {sp : DSpX} {sp' : DSp} (G : PmX P w K mg base k x st ps sp) (m : MonoX sp)
    (h : ∀ ds Q, sp' ds Q → sp ds Q fun _ => False) : Pm P w K mg base k x st ps sp' := by
  obtain ⟨f, fd, F, G⟩ := G
  exact ⟨f, fd, F, G.calm fun vs H Q E ⟨F', ds, h1, r, q⟩ => ⟨F', ds, h1, r, m ds _ _ _ _ (fun _ z => z) (fun _ z => z.elim) (h ds _ q)⟩⟩
def dRaise (c : Str) (ns : List Str) (tl : DTA) : DTSX := fun D ρ => tl ρ fun ds => ds.length = ns.length ∧ ds.length ≤ 1000 ∧ D.ex ρ (.exc c ns ds)
end

section
variable {P : Program} {w : World} {K : PySem.W.Frag} {mg : Str → Option Value} {base : Heap}
end
def specX {τ : Type} (args : τ → List Dt) (pre : τ → Prop) (good : τ → Prop) (post : τ → Dt → Prop) (exc : τ → Dt) : DSpX := fun ds Q E => ∃ p, ds = args p ∧ pre p ∧ (good p → ∀ d, post p d → Q d) ∧ (¬ good p → E (exc p))
theorem specX_mono {τ : Type} {args : τ → List Dt} {pre good : τ → Prop} {post : τ → Dt → Prop} {exc : τ → Dt} : MonoX (specX args pre good post exc) := fun _ _ _ _ _ hq hx ⟨p, e, h, q, x⟩ => ⟨p, e, h, fun g d z => hq _ (q g d z), fun g => hx _ (x g)⟩
theorem PmX.good {P : Program} {w : World} {K : PySem.W.Frag} {mg : Str → Option Value} {base : Heap} {k : Nat} {x : Str} {st : Stmt} {ps : List Str} {τ : Type} {args : τ → List Dt} {pre good : τ → Prop} {post : τ → Dt → Prop} {exc : τ → Dt}
    (G : PmX P w K mg base k x st ps (specX args pre good post exc)) : Pm P w K mg base k x st ps (spec args (fun p => pre p ∧ good p) post) := G.pm specX_mono fun ds Q ⟨p, e, h, q⟩ => ⟨p, e, h.1, fun _ d z => q d z, fun n => absurd h.2 n⟩
end L2

namespace L2
open PySem PySem.Spec PyProof.Rows PySem.SeqAt

section
variable {X : Cx} {pins : List (Addr × Obj)} {σ : St} {H : Hp} {s : Shared}
abbrev Cx.body (X : Cx) (W : Value → Shared → Prop) (pn : List (Addr × Obj)) : Cx := { X with xe := W, pn := pn }
abbrev Cx.suite (X : Cx) (a : Addr) : Cx := { X with A := X.A.mark (some (.ref a)), calm := false, xe := fun _ _ => False }
theorem Inv.body (I : Inv X pins σ H s) (W : Value → Shared → Prop) : Inv (X.body W (X.pn ++ pins)) [] σ H s :=
  ⟨⟨I.ok.mod, I.ok.kind, I.ok.glob, I.ok.blt, I.ok.above, I.ok.inj, I.ok.has, I.ok.cab, I.ok.hd, I.ok.frames, I.ok.stk, I.ok.exf, I.ok.bs, I.ok.bsz, I.ok.noex, I.ok.exfs, I.ok.funs, I.ok.frf⟩, I.os, I.bare, I.base, I.loc, I.cell, I.free, I.freeC, fun p hp => I.pin p (by simpa using hp), I.hok, I.len⟩
theorem Inv.suite (I : Inv X pins σ H s) (a : Addr) : Inv (X.suite a) pins σ H s :=
  ⟨⟨I.ok.mod, I.ok.kind, I.ok.glob, I.ok.blt, I.ok.above, I.ok.inj, I.ok.has, I.ok.cab, fun z => (by cases z), I.ok.frames, I.ok.stk, I.ok.exf, I.ok.bs, I.ok.bsz, I.ok.noex, I.ok.exfs, I.ok.funs, I.ok.frf⟩, I.os, I.bare, I.base, I.loc, I.cell, I.free, I.freeC, I.pin, I.hok, I.len⟩
end

theorem XC.uniq {K : PySem.W.Frag} {C U U' : Addr} (x : XC K C U) (y : XC K C U') : U = U' := by
  obtain ⟨nm, q1, N, bs, sn, sub, ab, col, dd, k0, k1, k2, k3, k5, lk⟩ := x.obj
  obtain ⟨nm', q1', N', bs', sn', sub', ab', col', dd', k0', k1', k2', k3', k5', lk'⟩ := y.obj
  rw [lk] at lk'
  injection lk' with e
  injection e with _ _ e _
  injection e with e
  injection e with _ _ e
  injection e with _ e
  injection e with e _
  injection e
def Under (K : PySem.W.Frag) (mg : Str → Option Value) (c T : Str) : Prop := ∀ C U, PySem.W.nsIn K mainGlobals c = some (some (.ref C)) → XC K C U → mg T = some (.ref U)
section
variable {X : Cx} {tb : DTSX} {ts : DTS} {pos tp hp : Pos} {T n : Str} {U : Addr} {body suite : List Stmt} {b₀ : Stmt}
def xcatch (K : PySem.W.Frag) (mg : Str → Option Value) (T : Str) (j : Nat) (ts : DTS) (D : DEnds) (ρ : DEnv) (x : Dt) : Prop := match x with
  | .exc c ns ds => Under K mg c T ∧ ts { nx := fun ρ2 => D.nx (ρ2.set j none), rt := fun _ => False } (ρ.set j (some (.is (.exc c ns ds))))
  | _ => False
def dTry (K : PySem.W.Frag) (mg : Str → Option Value) (T : Str) (j : Nat) (tb : DTSX) (ts : DTS) : DTSX := fun D ρ => tb ⟨D.d, xcatch K mg T j ts D.d⟩ ρ
end
end L2

namespace L2
open PySem PySem.Spec PyProof.Rows PySem.SeqAt

def SubX (K : PySem.W.Frag) (c : Str) (A : Addr) (b : Bool) : Prop := ∀ C, PySem.W.nsIn K mainGlobals c = some (some (.ref C)) → PySem.W.kitOne K (.ref C) (.ref A) = some b
def SubXs (K : PySem.W.Frag) (c : Str) (As : List Addr) (b : Bool) : Prop := ∀ C, PySem.W.nsIn K mainGlobals c = some (some (.ref C)) → PySem.W.kitAny K (.ref C) (As.map .ref) = some b
def NoAt (K : PySem.W.Frag) (c f : Str) : Prop := ∀ C, PySem.W.nsIn K mainGlobals c = some (some (.ref C)) → PySem.W.findIn K (.ref C) f = some none
theorem SubXs.nil {K : PySem.W.Frag} {c : Str} : SubXs K c [] false := fun _ _ => rfl
theorem SubXs.cons {K : PySem.W.Frag} {c : Str} {A : Addr} {As : List Addr} (h : SubX K c A false) (r : SubXs K c As false) : SubXs K c (A :: As) false := fun C e => by
  show PySem.W.kitAny K (.ref C) (.ref A :: As.map .ref) = some false
  unfold PySem.W.kitAny
  rw [h C e]
  exact r C e
section
variable {X : Cx} {a b c e : Expr} {es : List Expr} {ta tb te : DTE} {tl : DTA} {pos : Pos}
def dIsx (K : PySem.W.Frag) : DL := fun ds Q => match ds with
  | [.exc c _ _, .fn A] => ∃ v, SubX K c A v ∧ Q (.bl v)
  | _ => False
def dIsxs (K : PySem.W.Frag) : DL := fun ds Q => match ds with
  | [.exc c _ _, .tup es] => ∃ As v, es = As.map .fn ∧ SubXs K c As v ∧ Q (.bl v)
  | _ => False
theorem XC.value {K : PySem.W.Frag} {C U : Addr} (c : XC K C U) : PySem.W.kitOne K (.ref C) (.type "ValueError") = some true := by
  unfold PySem.W.kitOne
  rw [if_neg (by simp)]
  show (if PySem.W.kitMeta "ValueError" = true then PySem.W.mroIn K C (.type "ValueError") else none) = some true
  rw [if_pos (by decide +kernel), c.sub]
  simp
def dIsv (ta : DTE) : DTE := fun ρ Q => ta ρ fun d => match d with
  | .exc _ _ _ => Q (.bl true)
  | _ => False
def dXfld (K : PySem.W.Frag) (te : DTE) (f : Str) : DTE := fun ρ Q => te ρ fun d => match d with
  | .exc c ns ds => NoAt K c f ∧ ∃ v, (ns.zip ds).lookup f = some v ∧ Q v
  | _ => False
def dCalm (t : DTSX) : DTS := fun D ρ => t ⟨D, fun _ _ => False⟩ ρ
end
end L2

namespace L2
open PySem PySem.Spec PyProof.Rows PySem.SeqAt

section
variable {K : PySem.W.Frag} {mg : Str → Option Value} {c T f : Str} {C U A : Addr} {cd : ClassData}
theorem SubX.self (h : PySem.W.nsIn K mainGlobals c = some (some (.ref C))) : SubX K c C true := fun C' e => by
  rw [h] at e; cases e
  unfold PySem.W.kitOne
  rw [if_pos (by simp)]
theorem SubX.no (h : PySem.W.nsIn K mainGlobals c = some (some (.ref C))) (x : XC K C U) (z : PySem.W.clsIn K A = some cd) (t : PySem.W.typeIn K (.ref A) = some (.type "type")) (m : PySem.W.mroIn K C (.ref A) = some false) : SubX K c A false := fun C' e => by
  rw [h] at e; cases e
  have ne : C ≠ A := fun q => by
    subst q
    rw [x.sub] at m
    simp at m
  unfold PySem.W.kitOne
  rw [if_neg (by simp [ne])]
  show (if ((PySem.W.clsIn K A).isSome && PySem.W.typeIn K (.ref A) == some (.type "type")) = true then PySem.W.mroIn K C (.ref A) else none) = some false
  rw [if_pos (by rw [z, t]; simp), m]
theorem Under.mk (h : PySem.W.nsIn K mainGlobals c = some (some (.ref C))) (x : XC K C U) (m : mg T = some (.ref U)) : Under K mg c T := fun C' U' e y => by
  rw [h] at e; cases e
  rw [x.uniq y] at m
  exact m
theorem NoAt.mk (h : PySem.W.nsIn K mainGlobals c = some (some (.ref C))) (n : PySem.W.findIn K (.ref C) f = some none) : NoAt K c f := fun C' e => by
  rw [h] at e; cases e
  exact n
end
end L2

namespace L2
open PySem PySem.Spec PyProof.Rows PySem.SeqAt

theorem mask_updIn {O : List Addr} {H : Hp} {a : Addr} {o : HO} (h : a ∈ O) : mask O (upd H a o) = mask O H := by
  funext b
  by_cases q : b ∈ O
  · rw [mask_in q, mask_in q]
  · rw [mask_out q, mask_out q, upd_ne (a := a) (fun z => q (by rw [z]; exact h))]
theorem mask_new {F O : List Addr} {H : Hp} {p : Addr} {o : HO} (h : H p = none) : mask (F ++ (p :: O)) (upd H p o) = mask (F ++ O) H := by
  funext b
  by_cases e : b = p
  · subst e
    rw [mask_in (List.mem_append_right _ List.mem_cons_self)]
    by_cases q : b ∈ F ++ O
    · rw [mask_in q]
    · rw [mask_out q, h]
  · by_cases q : b ∈ F ++ O
    · rw [mask_in q, mask_in]
      rcases List.mem_append.mp q with q | q
      · exact List.mem_append_left _ q
      · exact List.mem_append_right _ (List.mem_cons_of_mem _ q)
    · rw [mask_out q, mask_out, upd_ne e]
      intro z
      rcases List.mem_append.mp z with z | z
      · exact q (List.mem_append_left _ z)
      · rcases List.mem_cons.mp z with z | z
        · exact e z
        · exact q (List.mem_append_right _ z)
section
variable {K : PySem.W.Frag} {B : Hp} {F O : List Addr} {H : Hp} {σ : St} {ρ : DEnv}
theorem Rep.newOwn (r : Rep K B F O H σ ρ) (i : Nat) {p : Addr} {ds : List Dt} {xs : List V} (hp : H p = none) (h : RpL K (mask (F ++ O) H) ds xs) : Rep K B F (p :: O) (upd H p (.lst xs)) (σ.set i (some (.ref p))) (ρ.set i (some (.own ds))) := by
  have hl := r.len
  have nF : p ∉ F := fun z => r.th p (List.mem_append_left _ z) hp
  have nO : p ∉ O := fun z => r.th p (List.mem_append_right _ z) hp
  have em := mask_new (F := F) (O := O) (o := .lst xs) hp
  refine ⟨by simpa using hl, r.base.trans (Same.upd hp), fun a h => ?_, fun a h e => ?_, fun j d q => ?_, fun j es q => ?_, fun j k es es' a h1 h2 h3 h4 => ?_⟩
  · rcases List.mem_cons.mp h with rfl | h
    · cases q : B a with
      | none => rfl
      | some o => rw [r.base a o q] at hp; cases hp
    · exact r.fr a h
  · by_cases z : a = p
    · rw [z, upd_same] at e; cases e
    · rw [upd_ne z] at e
      refine r.th a ?_ e
      rcases List.mem_append.mp h with h | h
      · exact List.mem_append_left _ h
      · exact List.mem_append_right _ ((List.mem_cons.mp h).resolve_left z)
  · by_cases hj : j = i
    · subst hj
      by_cases hk : j < ρ.length
      · rw [List.getElem?_set_self hk] at q; cases q
      · rw [List.getElem?_eq_none (by simpa using hk)] at q; cases q
    · rw [List.getElem?_set_ne (Ne.symm hj)] at q ⊢
      rw [em]; exact r.is j d q
  · by_cases hj : j = i
    · subst hj
      by_cases hk : j < ρ.length
      · rw [List.getElem?_set_self hk] at q; cases q
        exact ⟨p, xs, List.getElem?_set_self (by omega), List.mem_cons_self, nF, upd_same, by rw [em]; exact h⟩
      · rw [List.getElem?_eq_none (by simpa using hk)] at q; cases q
    · rw [List.getElem?_set_ne (Ne.symm hj)] at q ⊢
      obtain ⟨a, ys, h1, h2, h3, h4, h5⟩ := r.own j es q
      exact ⟨a, ys, h1, List.mem_cons_of_mem _ h2, h3, by rw [upd_ne (a := p) (fun z => nO (by rw [← z]; exact h2))]; exact h4, by rw [em]; exact h5⟩
  · have other : ∀ (m : Nat) es, m ≠ i → (ρ.set i (some (.own ds)))[m]? = some (some (.own es)) → (σ.set i (some (.ref p)))[m]? = some (some (.ref p)) → False := fun m es hm q1 q2 => by
      rw [List.getElem?_set_ne (Ne.symm hm)] at q1 q2
      obtain ⟨b, _, e1, e2, _⟩ := r.own m es q1
      rw [e1] at q2
      cases q2
      exact nO e2
    by_cases hj : j = i
    · by_cases hk : k = i
      · rw [hj, hk]
      · subst hj
        have : a = p := by
          rw [List.getElem?_set_self (by
            have := (List.getElem?_eq_some_iff.mp h1).1
            simp at this; omega)] at h3
          cases h3; rfl
        subst this
        exact (other k es' hk h2 h4).elim
    · by_cases hk : k = i
      · subst hk
        have : a = p := by
          rw [List.getElem?_set_self (by
            have := (List.getElem?_eq_some_iff.mp h2).1
            simp at this; omega)] at h4
          cases h4; rfl
        subst this
        exact (other j es hj h1 h3).elim
      · rw [List.getElem?_set_ne (Ne.symm hj)] at h1 h3
        rw [List.getElem?_set_ne (Ne.symm hk)] at h2 h4
        exact r.inj j k es es' a h1 h2 h3 h4
theorem Rep.putOwn (r : Rep K B F O H σ ρ) {i : Nat} {a : Addr} {ds es : List Dt} {xs ys : List V} (hi : ρ[i]? = some (some (.own ds))) (hs : σ[i]? = some (some (.ref a))) (ha : a ∈ O) (hH : H a = some (.lst xs)) (h : RpL K (mask (F ++ O) H) es ys) :
    Rep K B F O (upd H a (.lst ys)) σ (ρ.set i (some (.own es))) := by
  have em : mask (F ++ O) (upd H a (.lst ys)) = mask (F ++ O) H := mask_updIn (List.mem_append_right _ ha)
  have hk : i < ρ.length := (List.getElem?_eq_some_iff.mp hi).1
  refine ⟨by simpa using r.len, fun b o e => ?_, r.fr, fun b hb e => ?_, fun j d q => ?_, fun j ks q => ?_, fun j k es' es'' b h1 h2 h3 h4 => ?_⟩
  · rw [upd_ne fun z => by rw [z, r.fr a ha] at e; cases e]; exact r.base b o e
  · by_cases z : b = a
    · rw [z, upd_same] at e; cases e
    · rw [upd_ne z] at e; exact r.th b hb e
  · have hj : j ≠ i := fun z => by subst z; rw [List.getElem?_set_self hk] at q; cases q
    rw [List.getElem?_set_ne (Ne.symm hj)] at q
    rw [em]; exact r.is j d q
  · by_cases hj : j = i
    · subst hj
      rw [List.getElem?_set_self hk] at q; cases q
      obtain ⟨b, _, e1, e2, e3, _⟩ := r.own j ds hi
      rw [hs] at e1; cases e1
      exact ⟨a, ys, hs, ha, e3, upd_same, by rw [em]; exact h⟩
    · rw [List.getElem?_set_ne (Ne.symm hj)] at q
      obtain ⟨b, zs, e1, e2, e3, e4, e5⟩ := r.own j ks q
      have nb : b ≠ a := fun z => by subst z; exact hj (r.inj j i ks ds b q hi e1 hs)
      exact ⟨b, zs, e1, e2, e3, by rw [upd_ne nb]; exact e4, by rw [em]; exact e5⟩
  · have back : ∀ (m : Nat) ks, (ρ.set i (some (.own es)))[m]? = some (some (.own ks)) → ∃ ks', ρ[m]? = some (some (.own ks')) := fun m ks q => by
      by_cases hm : m = i
      · subst hm; exact ⟨ds, hi⟩
      · rw [List.getElem?_set_ne (Ne.symm hm)] at q; exact ⟨ks, q⟩
    obtain ⟨_, q1⟩ := back j es' h1
    obtain ⟨_, q2⟩ := back k es'' h2
    exact r.inj j k _ _ b q1 q2 h3 h4
theorem Rep.freeze (r : Rep K B F O H σ ρ) {i : Nat} {ds : List Dt} (hi : ρ[i]? = some (some (.own ds))) : ∃ O', Rep K B F O' H σ (ρ.set i (some (.is (.lst ds)))) := by
  obtain ⟨a, xs, h1, h2, h3, h4, h5⟩ := r.own i ds hi
  have hk : i < ρ.length := (List.getElem?_eq_some_iff.mp hi).1
  have sub : ∀ b ∈ F ++ O.filter (fun b => decide (b ≠ a)), b ∈ F ++ O := fun b hb => by
    rcases List.mem_append.mp hb with hb | hb
    · exact List.mem_append_left _ hb
    · exact List.mem_append_right _ (List.mem_filter.mp hb).1
  have na : a ∉ F ++ O.filter (fun b => decide (b ≠ a)) := fun z => by
    rcases List.mem_append.mp z with z | z
    · exact h3 z
    · exact of_decide_eq_true (List.mem_filter.mp z).2 rfl
  refine ⟨O.filter fun b => decide (b ≠ a), by simpa using r.len, r.base, fun b hb => r.fr b (List.mem_filter.mp hb).1, fun b hb => r.th b (sub b hb), fun j d q => ?_, fun j es q => ?_, fun j k es es' b q1 q2 q3 q4 => ?_⟩
  · by_cases hj : j = i
    · subst hj
      rw [List.getElem?_set_self hk] at q; cases q
      exact ⟨.ref a, h1, rp_lstI ⟨a, xs, rfl, (by rw [mask_out na]; exact h4), h5.mono (mask_sub sub)⟩⟩
    · rw [List.getElem?_set_ne (Ne.symm hj)] at q
      obtain ⟨v, e1, e2⟩ := r.is j d q
      exact ⟨v, e1, e2.mono (mask_sub sub)⟩
  · have hj : j ≠ i := fun z => by subst z; rw [List.getElem?_set_self hk] at q; cases q
    rw [List.getElem?_set_ne (Ne.symm hj)] at q
    obtain ⟨b, ys, e1, e2, e3, e4, e5⟩ := r.own j es q
    have nb : b ≠ a := fun z => by subst z; exact hj (r.inj j i es ds b q hi e1 h1)
    exact ⟨b, ys, e1, List.mem_filter.mpr ⟨e2, decide_eq_true nb⟩, e3, e4, e5.mono (mask_sub sub)⟩
  · have nj : ∀ (m : Nat) ks, (ρ.set i (some (.is (.lst ds))))[m]? = some (some (.own ks)) → ρ[m]? = some (some (.own ks)) := fun m ks q => by
      have hm : m ≠ i := fun z => by subst z; rw [List.getElem?_set_self hk] at q; cases q
      rw [List.getElem?_set_ne (Ne.symm hm)] at q; exact q
    exact r.inj j k es es' b (nj j es q1) (nj k es' q2) q3 q4
end
section
variable {X : Cx} {a b c e : Expr} {es : List Expr} {st : Stmt} {ta tb te : DTE} {tl : DTA} {t : DTS} {pos : Pos}
def dOwn (i : Nat) (tl : DTA) : DTS := fun D ρ => tl ρ fun ds => ds.length ≤ sizeLine ∧ D.nx (ρ.set i (some (.own ds)))
theorem ds_own (i : Nat) {x : Str} {pos' lp : Pos} (hN : X.N.Nodup) (ha : DA X es tl) (hi : X.N[i]? = some x := by rfl) (hx : Loc X.env.scope x := by first | exact Or.inl rfl | exact Or.inr rfl) (hs : swapsWith (.List es lp) (some (.Name x pos')) pos.line X.env = pure false := by rfl)
    (hf : X.fn x = true ∨ X.env.scope.names.lookup x = some .local := by first | exact .inl rfl | exact .inr rfl | assumption) : DS X (.Assign [.Name x pos'] (.List es lp) pos) (dOwn i tl) where
  mono := fun hd h => ha.mono (fun ds ⟨h1, h2⟩ => ⟨h1, hd.nx _ h2⟩) h
  ps := (ps_set hN hi hx (pe_lst ha.pa) hs hf).imp fun D σ H ⟨B, F, O, ρ, R, h⟩ => ⟨B, F, O, ρ, R, ha.mono (fun ds ⟨h1, h2⟩ vs H1 s1 r1 => ⟨by rw [r1.len]; exact h1, fun p hp => h2 (p :: O) _ _ ((R.same s1).newOwn i hp r1)⟩) h⟩
def ownAt (ρ : DEnv) (j : Nat) (k : List Dt → Prop) : Prop := match ρ[j]? with
  | some (some (.own ds)) => k ds
  | _ => False
theorem ownAt.mono {ρ : DEnv} {j : Nat} {k k' : List Dt → Prop} (hk : ∀ ds, k ds → k' ds) (h : ownAt ρ j k) : ownAt ρ j k' := by
  unfold ownAt at h ⊢
  split at h
  · exact hk _ h
  · exact h.elim
theorem ownAt.get {ρ : DEnv} {j : Nat} {k : List Dt → Prop} (h : ownAt ρ j k) : ∃ ds, ρ[j]? = some (some (.own ds)) ∧ k ds := by
  unfold ownAt at h
  split at h
  · rename_i ds e; exact ⟨ds, e, h⟩
  · exact h.elim
def dIxO (j : Nat) (tb : DTE) : DTE := fun ρ Q => ownAt ρ j fun ds => tb ρ fun k => match k with
  | .int i => match ixL i ds with
    | some v => Q v
    | none => False
  | _ => False
def dSetO (j : Nat) (te tb : DTE) : DTS := fun D ρ => te ρ fun d => ownAt ρ j fun ds => tb ρ fun k => match k with
  | .int i => (0 ≤ i ∧ i < ds.length) ∧ D.nx (ρ.set j (some (.own (ds.set i.toNat d))))
  | _ => False
theorem RpL.put {K : PySem.W.Frag} {H : Hp} {d : Dt} {v : V} : ∀ {ds : List Dt} {vs : List V} (n : Nat), RpL K H ds vs → Rp K H d v → RpL K H (ds.set n d) (vs.set n v)
  | [], _, _, h, _ => by rw [rpl_nil.mp h]; exact RpL.nil
  | x :: ds, _, 0, h, r => by
    obtain ⟨u, w, rfl, _, p⟩ := rpl_cons.mp h
    exact .cons r p
  | x :: ds, _, n + 1, h, r => by
    obtain ⟨u, w, rfl, q, p⟩ := rpl_cons.mp h
    exact .cons q (RpL.put n p r)
def dAppO (j : Nat) (te : DTE) : DTS := fun D ρ => ownAt ρ j fun ds => te ρ fun d => ds.length < sizeLine ∧ D.nx (ρ.set j (some (.own (ds ++ [d]))))
theorem ds_app (j : Nat) {x : Str} {px ap cp : Pos} (he : DE X e te) (hN : X.N[j]? = some x := by rfl) (hv : Vis X.env.scope x := by first | exact Or.inl rfl | exact Or.inr (Or.inl rfl) | exact Or.inr (Or.inr rfl)) (hd : (x == ("__debug__" : Str)) = false := by decide)
    (hcd : (x == ("__classdict__" : Str)) = false := by decide) (hbase : attributeBase (.Name x px) "append" X.env (eval (.Name x px) X.env) = eval (.Name x px) X.env := by rfl)
    (hfew : ((backTo cp (starEach [e] X.env)).all (fun x => !x.1) && (backToKw cp (keywordEach [] X.env)).all (fun x => x.1.isSome) && decide ([e].length + ([] : List Keyword).length + (if ([] : List Keyword).isEmpty then 0 else 1) < 30)) = true := by rfl)
    (hline : (ap.endLine == cp.line) = true := by rfl) (hst : starEach [e] X.env = (false, eval e X.env) :: starEach [] X.env := by rfl) (hplain : (backTo cp (starEach [] X.env)).any (·.1) = false := by rfl)
    (hs : swapsWith (.Call (.Attribute (.Name x px) "append" ap) [e] [] cp) none pos.line X.env = pure false := by rfl) : DS X (.Expr (.Call (.Attribute (.Name x px) "append" ap) [e] [] cp) pos) (dAppO j te) where
  mono := fun hd h => h.mono fun ds h => he.mono (fun d h => ⟨h.1, hd.nx _ h.2⟩) h
  ps := (ps_expr (pe_bm PySem.F.plainAttrs_list PySem.F.slot_list_append PySem.F.type_list_append mt_append (pe_var hN hv hd hcd) (pa_cons he.pe pa_nil hst) hbase hfew hline hst hplain) hs).imp fun D σ H ⟨B, F, O, ρ, R, h⟩ => by
    obtain ⟨ds, e1, h⟩ := h.get
    obtain ⟨a, xs, h1, h2, h3, h4, h5⟩ := R.own j ds e1
    refine ⟨_, h1, .inl ⟨rfl, _, SqL.of h4⟩, B, F, O, ρ, R, he.mono (fun d h v H1 s1 r1 => ?_) h⟩
    exact ⟨a, xs, v, rfl, rfl, s1 _ _ h4, by rw [h5.len]; exact h.1, h.2 O σ _ ((R.same s1).putOwn e1 h1 h2 (s1 _ _ h4) ((h5.mono s1.mask).append (.cons r1 .nil)))⟩
def dFrz (j : Nat) (t : DTS) : DTS := fun D ρ => ownAt ρ j fun ds => t D (ρ.set j (some (.is (.lst ds))))
theorem ds_frz (j : Nat) (h : DS X st t) : DS X st (dFrz j t) where
  mono := fun hd z => z.mono fun ds z => h.mono hd z
  ps := h.ps.imp fun D σ H ⟨B, F, O, ρ, R, z⟩ => by
    obtain ⟨ds, e1, z⟩ := z.get
    obtain ⟨O', R'⟩ := R.freeze e1
    exact ⟨B, F, O', _, R', z⟩
def dLenO (j : Nat) : DTE := fun ρ Q => ownAt ρ j fun ds => Q (.int ds.length)
def dCatT : D2 := fun a b Q => match a with
  | .tup xs => match b with
    | .tup ys => (xs ≠ [] ∧ xs.length + ys.length ≤ sizeLine) ∧ Q (.tup (xs ++ ys))
    | _ => False
  | _ => False
end
end L2

namespace L2
open PySem PySem.Spec PyProof.Rows
section chain3
variable {X : Cx} {a b c e : Expr} {ta tb tc te : TE} {pos : Pos}
theorem pt_chain3 {op op' op2 : CmpOp} {r r' r2 : R2} (ho : OpR X (compareOp op) r) (ho' : OpR X (compareOp op') r') (ho2 : OpR X (compareOp op2) r2) (ha : PE X a ta) (hb : PE X b tb) (hc : PE X c tc) (he : PE X e te)
    (hm : lastMarks [op, op', op2] [b, c, e] = false := by with_unfolding_all rfl) : PT X (.Compare a [op, op', op2] [b, c, e] pos) (fun σ H Q => ta σ H fun x H1 => tb σ H1 fun y H2 => r x y H2 fun z H3 => ∃ k, z = .bl k ∧
      (if k = true then tc σ H3 fun w' H4 => r' y w' H4 fun z H5 => ∃ k, z = .bl k ∧ (if k = true then te σ H5 fun y' H6 => r2 w' y' H6 fun z H7 => ∃ k, z = .bl k ∧ Q k H7 else Q false H5) else Q false H3)) := by
  intro pins s σ H Q I h
  refine isTrue_chain (thn (ha pins s σ H _ I h) fun v s1 ⟨x, H1, I1, r1, q1⟩ => test_link (thn (hb pins s1 σ H1 _ I1 q1) fun u s2 ⟨y, H2, I2, r2, q2⟩ =>
    thn (ho pins s2 σ H2 x y v u _ I2 r1 r2 q2) fun d s3 ⟨z, H3, I3, r3, k, e, q3⟩ => ?_)) hm
  subst e
  cases r3
  refine wpAny_truthy_bool ?_
  cases k with
  | false => exact ite_ff ⟨H3, I3, q3⟩
  | true =>
    refine ite_tt (test_link (thn (hc pins s3 σ H3 _ I3 q3) fun w' s4 ⟨z', H4, I4, r4, q4⟩ => thn (ho' pins s4 σ H4 y z' u w' _ I4 r2 r4 q4) fun d' s5 ⟨z2, H5, I5, r5, k2, e2, q5⟩ => ?_))
    subst e2
    cases r5
    refine wpAny_truthy_bool ?_
    cases k2 with
    | false => exact ite_ff ⟨H5, I5, q5⟩
    | true =>
      refine ite_tt (test_last (thn (he pins s5 σ H5 _ I5 q5) fun w2 s6 ⟨z3, H6, I6, r6, q6⟩ => thn (ho2 pins s6 σ H6 z' z3 w' w2 _ I6 r4 r6 q6) fun d' s7 ⟨z4, H7, I7, r7, k3, e3, q7⟩ => ?_))
      subst e3
      cases r7
      exact wpAny_truthy_bool ⟨H7, I7, q7⟩
end chain3
def dChain3 (t t' t2 : D2) (ta tb tc te : DTE) : DTT := fun ρ Q => ta ρ fun a => tb ρ fun b => t a b fun z => match z with
  | .bl k => if k = true then tc ρ fun c => t' b c fun z => match z with
    | .bl k => if k = true then te ρ fun e => t2 c e fun z => match z with
      | .bl k => Q k
      | _ => False
      else Q false
    | _ => False
    else Q false
  | _ => False
section
variable {X : Cx} {a b c e : Expr} {ta tb tc te : DTE} {pos : Pos}
theorem dt_chain3 {op op' op2 : CmpOp} {r r' r2 : R2} {t t' t2 : D2} (ho : OpR X (compareOp op) r) (ho' : OpR X (compareOp op') r') (ho2 : OpR X (compareOp op2) r2) (S : Sem2 X.K r t) (S' : Sem2 X.K r' t') (S2 : Sem2 X.K r2 t2) (ha : DE X a ta) (hb : DE X b tb) (hc : DE X c tc) (he : DE X e te)
    (hm : lastMarks [op, op', op2] [b, c, e] = false := by with_unfolding_all rfl) : DT X (.Compare a [op, op', op2] [b, c, e] pos) (dChain3 t t' t2 ta tb tc te) where
  mono := fun hq h => ha.mono (fun _ h => hb.mono (fun _ h => S.mono (fun z h => by
    split at h
    · rename_i k
      cases k with
      | true =>
        refine hc.mono (fun _ h => S'.mono (fun z h => ?_) h) h
        split at h
        · rename_i k
          cases k with
          | true =>
            refine he.mono (fun _ h => S2.mono (fun z h => ?_) h) h
            split at h
            · exact hq _ h
            · exact h.elim
          | false => exact hq _ h
        · exact h.elim
      | false => exact hq _ h
    · exact h.elim) h) h) h
  pt := (pt_chain3 ho ho' ho2 ha.pe hb.pe hc.pe he.pe hm).imp fun σ H Q ⟨B, F, O, ρ, R, h⟩ => by
    refine ⟨B, F, O, ρ, R, ha.mono (fun a h v H1 s1 r1 => ⟨B, F, O, ρ, R.same s1, hb.mono (fun b h u H2 s2 r2 => ?_) h⟩) h⟩
    refine S.ok _ H2 a b v u _ ((R.same s1).same s2).th (r1.mono s2.mask) r2 (S.mono (fun z h w H3 s3 r3 => ?_) h)
    split at h
    · rename_i k
      refine ⟨k, rp_bl.mp r3, ?_⟩
      have s123 := (s1.trans s2).trans s3
      cases k with
      | false => exact h H3 s123
      | true =>
        refine ⟨B, F, O, ρ, R.same s123, hc.mono (fun c h y H4 s4 r4 => ?_) h⟩
        refine S'.ok _ H4 b c u y _ ((R.same s123).same s4).th ((r2.mono s3.mask).mono s4.mask) r4 (S'.mono (fun z h w H5 s5 r5 => ?_) h)
        split at h
        · rename_i k
          refine ⟨k, rp_bl.mp r5, ?_⟩
          have s5' := (s123.trans s4).trans s5
          cases k with
          | false => exact h H5 s5'
          | true =>
            refine ⟨B, F, O, ρ, R.same s5', he.mono (fun e h y2 H6 s6 r6 => ?_) h⟩
            refine S2.ok _ H6 c e y y2 _ ((R.same s5').same s6).th ((r4.mono s5.mask).mono s6.mask) r6 (S2.mono (fun z h w H7 s7 r7 => ?_) h)
            split at h
            · exact ⟨_, rp_bl.mp r7, h H7 ((s5'.trans s6).trans s7)⟩
            · exact h.elim
        · exact h.elim
    · exact h.elim
end
end L2

namespace L2
open PySem PySem.Spec PyProof.Rows PySem.W
end L2

namespace L2
open PySem PySem.Spec PyProof.Rows
variable {X : Cx} {a b : Expr} {ta tb : DTE} {pos : Pos}
theorem ints_vs {K : PySem.W.Frag} {H : Hp} : ∀ {ns : List Int} {xs : List V}, RpL K H (ns.map Dt.int) xs → xs = ns.map V.int
  | [], _, h => by
    obtain rfl := rpl_nil.mp h
    rfl
  | n :: ns, _, h => by
    obtain ⟨v, r, rfl, r2, r3⟩ := rpl_cons.mp h
    rw [rp_int] at r2
    subst r2
    rw [ints_vs r3]
    rfl
def dIn : D2 := fun a b Q => ∃ (i : Int) (ns : List Int), a = .int i ∧ b = .lst (ns.map Dt.int) ∧ Q (.bl (decide (i ∈ ns)))
def dAugI (i : Nat) (te : DTE) : DTS := fun D ρ => match ρ[i]? with
  | some (some (.is (.int a))) => te ρ fun d => match d with
    | .int b => D.nx (ρ.set i (some (.is (.int (a + b)))))
    | _ => False
  | _ => False
def dPar3 (i j k : Nat) (tl : DTA) : DTS := fun D ρ => tl ρ fun ds => match ds with
  | [d, e, f] => D.nx (((ρ.set i (some (.is d))).set j (some (.is e))).set k (some (.is f)))
  | _ => False
end L2

namespace L2
open PySem PySem.Spec PyProof.Rows PySem.SeqAt

mutual
def Dt.noL : Nat → Dt → Bool
  | _, .non => true
  | _, .bl _ => true
  | _, .int _ => true
  | _, .str _ => true
  | 0, _ => false
  | n + 1, .tup ds => Dt.noLs n ds
  | _, _ => false
def Dt.noLs : Nat → List Dt → Bool
  | _, [] => true
  | n, d :: ds => Dt.noL n d && Dt.noLs n ds
end
theorem noLs_c {n : Nat} {d : Dt} {r : List Dt} : Dt.noLs n (d :: r) = (Dt.noL n d && Dt.noLs n r) := by rw [Dt.noLs]
theorem noLs_n {n : Nat} : Dt.noLs n [] = true := by rw [Dt.noLs]
theorem noL_i {n : Nat} {i : Int} : Dt.noL n (.int i) = true := by cases n <;> rw [Dt.noL] <;> simp
theorem noL_t {n : Nat} {r : List Dt} : Dt.noL (n + 1) (.tup r) = Dt.noLs n r := by rw [Dt.noL]
def Keep (M M' : Hp) : Prop := ∀ b o, M b = some o → (∀ xs, o ≠ .lst xs) → M' b = some o
mutual
theorem rp_noL {K : PySem.W.Frag} {M M' : Hp} (k : Keep M M') : ∀ (n : Nat) (d : Dt) (v : V), d.noL n = true → Rp K M d v → Rp K M' d v
  | _, .non, _, _, r => by rw [rp_non] at r ⊢; exact r
  | _, .bl _, _, _, r => by rw [rp_bl] at r ⊢; exact r
  | _, .int _, _, _, r => by rw [rp_int] at r ⊢; exact r
  | _, .str _, _, _, r => by rw [rp_str] at r ⊢; exact r
  | 0, .tup _, _, h, _ => by simp [Dt.noL] at h
  | n + 1, .tup ds, _, h, r => by
    rw [noL_t] at h
    obtain ⟨a, xs, e, q, r⟩ := rp_tup.mp r
    refine rp_tup.mpr ⟨a, xs, e, ?_, rpl_noL k n ds xs h r⟩
    rcases q with (q | ⟨o, q⟩) | q
    · exact .inl (.inl (k _ _ q fun _ => by simp))
    · exact .inl (.inr ⟨o, k _ _ q fun _ => by simp⟩)
    · exact .inr q
  | 0, .lst _, _, h, _ => by simp [Dt.noL] at h
  | _ + 1, .lst _, _, h, _ => by simp [Dt.noL] at h
  | 0, .fn _, _, h, _ => by simp [Dt.noL] at h
  | _ + 1, .fn _, _, h, _ => by simp [Dt.noL] at h
  | 0, .exc _ _ _, _, h, _ => by simp [Dt.noL] at h
  | _ + 1, .exc _ _ _, _, h, _ => by simp [Dt.noL] at h
  | 0, .obj _ _ _, _, h, _ => by simp [Dt.noL] at h
  | _ + 1, .obj _ _ _, _, h, _ => by simp [Dt.noL] at h
theorem rpl_noL {K : PySem.W.Frag} {M M' : Hp} (k : Keep M M') : ∀ (n : Nat) (ds : List Dt) (vs : List V), Dt.noLs n ds = true → RpL K M ds vs → RpL K M' ds vs
  | _, [], _, _, r => by rw [rpl_nil] at r ⊢; exact r
  | n, d :: ds, _, h, r => by
    rw [noLs_c, Bool.and_eq_true] at h
    obtain ⟨v, w, rfl, r1, r2⟩ := rpl_cons.mp r
    exact rpl_cons.mpr ⟨v, w, rfl, rp_noL k n d v h.1 r1, rpl_noL k n ds w h.2 r2⟩
end
theorem RpL.memOf {K : PySem.W.Frag} {H : Hp} : ∀ {ds : List Dt} {vs : List V} {d : Dt}, RpL K H ds vs → d ∈ ds → ∃ v ∈ vs, Rp K H d v
  | [], _, _, _, h => by simp at h
  | d :: ds, _, e, r, h => by
    obtain ⟨v, w, rfl, r1, r2⟩ := rpl_cons.mp r
    rcases List.mem_cons.mp h with h | h
    · subst h; exact ⟨v, List.mem_cons_self, r1⟩
    · obtain ⟨u, h1, h2⟩ := RpL.memOf r2 h
      exact ⟨u, List.mem_cons_of_mem _ h1, h2⟩
def isLst : Option HO → Bool
  | some (.lst _) => true
  | _ => false
theorem isLst_some {o : Option HO} (h : isLst o = true) : ∃ xs, o = some (.lst xs) := by
  unfold isLst at h
  split at h
  · exact ⟨_, rfl⟩
  · cases h
def lists (H : Hp) (n : Nat) : List Addr := (List.range n).filter fun a => isLst (H a)
theorem lists_mem {H : Hp} {n a : Nat} {xs : List V} (h : H a = some (.lst xs)) (l : a < n) : a ∈ lists H n := List.mem_filter.mpr ⟨List.mem_range.mpr l, by rw [h]; rfl⟩
theorem lists_is {H : Hp} {n a : Nat} (h : a ∈ lists H n) : ∃ xs, H a = some (.lst xs) := isLst_some (List.mem_filter.mp h).2
section
variable {X : Cx} {a b c e : Expr} {es : List Expr} {st : Stmt} {ta tb te : DTE} {tl : DTA} {tA : DTT} {t : DTS} {pos : Pos}
def dFresh (i : Nat) (sp : DSp) (tl : DTA) : DTS := fun D ρ => tl ρ fun ds => Dt.noLs 4 ds = true ∧ sp ds fun d => ∃ ks, d = .lst ks ∧ (∃ r, Dt.tup r ∈ ks) ∧ Dt.noLs 4 ks = true ∧ D.nx (ρ.set i (some (.own ks)))
theorem ds_fresh (i : Nat) {k : Nat} {ps : List Str} {sp : DSp} {f y : Str} {stx : Stmt} {p cp pos' : Pos} (hN : X.N.Nodup) (m : MonoSp sp) (G : Pm X.prog X.w X.K X.mg X.base k f stx ps sp) (hr : Room k X.A) (hg : Gl X f)
    (ha : DA X (e :: es) tl) (hdb : (f == ("__debug__" : Str)) = false := by decide) (hi : X.N[i]? = some y := by rfl) (hx : Loc X.env.scope y := by first | exact Or.inl rfl | exact Or.inr rfl)
    (he : starEach (e :: es) X.env = (false, eval e X.env) :: starEach es X.env := by rfl) (hpl : (backTo cp (starEach es X.env)).any (·.1) = false := by rfl)
    (hs : swapsWith (.Call (.Name f p) (e :: es) [] cp) (some (.Name y pos')) pos.line X.env = pure false := by rfl)
    (hf : X.fn y = true ∨ X.env.scope.names.lookup y = some .local := by first | exact .inl rfl | exact .inr rfl | assumption) : DS X (.Assign [.Name y pos'] (.Call (.Name f p) (e :: es) [] cp) pos) (dFresh i sp tl) where
  mono := fun hd h => ha.mono (fun ds ⟨h1, h2⟩ => ⟨h1, m _ _ _ (fun d ⟨ks, q1, q2, q3, q4⟩ => ⟨ks, q1, q2, q3, hd.nx _ q4⟩) h2⟩) h
  ps := fun pins s σ H D I ⟨B, F, O, ρ, R, h⟩ => by
    obtain ⟨f', fd, FT, G⟩ := G
    refine (ps_set hN hi hx (pe_call G hr hg FT.mg FT.fn.kp FT.bd .nil pass0 ha.pa hdb he hpl) hs hf) pins s σ H D I ?_
    refine ⟨B, F, O, ρ, R, ha.mono (fun ds ⟨hn, z⟩ vs H1 s1 r1 => ?_) h⟩
    show lSp X.K sp (vs ++ []) H1 _ E0
    rw [List.append_nil]
    have hL : ∀ a ∈ lists H s.heap.objs.size, ∃ xs, H1 a = some (.lst xs) := fun a h => by
      obtain ⟨xs, e⟩ := lists_is h
      exact ⟨xs, s1 _ _ e⟩
    refine ⟨(F ++ O) ++ lists H s.heap.objs.size, ds, fun a h => ?_, ?_, m _ _ _ (fun d ⟨ks, q1, ⟨rr, q2⟩, q3, q4⟩ v H2 s2 r2 => ?_) z⟩
    · rcases List.mem_append.mp h with h | h
      · exact (R.same s1).th a h
      · obtain ⟨xs, e⟩ := hL a h
        rw [e]; simp
    · refine rpl_noL (fun b o e nl => ?_) 4 ds vs hn r1
      obtain ⟨n1, e⟩ := mask_some e
      rw [mask_out]
      · exact e
      · intro z
        rcases List.mem_append.mp z with z | z
        · exact n1 z
        · obtain ⟨xs, e'⟩ := hL b z
          rw [e] at e'
          exact nl xs (Option.some.inj e')
    · subst q1
      obtain ⟨a, xs, rfl, ls, rl⟩ := rp_lst0.mp r2
      have ea : mask ((F ++ O) ++ lists H s.heap.objs.size) H2 a = some (.lst xs) := by
        rcases ls with ls | ⟨_, hi⟩
        · exact ls
        · obtain ⟨v, hv, r⟩ := rl.memOf q2
          obtain ⟨_, _, rfl, _⟩ := rp_tup.mp r
          obtain ⟨i, e⟩ := hi _ hv
          cases e
      obtain ⟨na, ea⟩ := mask_some ea
      have Ha : H a = none := by
        cases q : H a with
        | none => rfl
        | some o =>
          have e2 := s2 _ _ (s1 _ _ q)
          rw [ea] at e2
          cases e2
          exact absurd (List.mem_append_right _ (lists_mem q (I.hok a _ q).lt)) na
      let H3 : Hp := fun b => if b = a then none else H2 b
      have h3n : H3 a = none := if_pos rfl
      have h3o : ∀ b, b ≠ a → H3 b = H2 b := fun b n => if_neg n
      have eU : upd H3 a (.lst xs) = H2 := by
        funext b
        by_cases n : b = a
        · subst n; rw [upd_same, ea]
        · rw [upd_ne n, h3o b n]
      have R3 : Rep X.K B F O H3 σ ρ := R.same fun b o q => by
        rw [h3o b fun n => by rw [n, Ha] at q; cases q]
        exact s2 _ _ (s1 _ _ q)
      have rl3 : RpL X.K (mask (F ++ O) H3) ks xs := rpl_noL (fun b o q nl => by
        obtain ⟨n1, q⟩ := mask_some q
        rw [mask_out fun z => n1 (List.mem_append_left _ z), h3o b fun n => by
          subst n
          rw [ea] at q
          exact nl xs (Option.some.inj q).symm]
        exact q) 4 ks xs q3 rl
      have := q4 (a :: O) _ _ (R3.newOwn i h3n rl3)
      rw [eU] at this
      exact this
def dLendT (j : Nat) (t : DTT) : DTT := fun ρ Q => ownAt ρ j fun ds => t (ρ.set j (some (.is (.lst ds)))) Q
theorem dt_lend (j : Nat) (h : DT X e tA) : DT X e (dLendT j tA) where
  mono := fun hq z => z.mono fun ds z => h.mono hq z
  pt := h.pt.imp fun σ H Q ⟨B, F, O, ρ, R, z⟩ => by
    obtain ⟨ds, e1, z⟩ := z.get
    obtain ⟨O', R'⟩ := R.freeze e1
    exact ⟨B, F, O', _, R', h.mono (fun b q H' s' => q H' s') z⟩
def dCopyO (j : Nat) : DTE := fun ρ Q => ownAt ρ j fun ds => Q (.lst ds)
end
end L2

namespace L2
open PySem PySem.Spec PyProof.Rows PySem.W PySem.Builtin PySem.Builtin.ObjectAttr

section
variable {prog : Program} {w : World} {A : Around} {E : Value → Shared → Prop} {s : Shared} {K : PySem.W.Frag} {C U x dx : Addr} {name : Str} {v : Value}
end
section
variable {X : Cx} {pins : List (Addr × Obj)} {σ : St} {H : Hp} {s : Shared} {h' : Heap} {a dx C U f fI : Addr}
end
end L2
namespace L2
open PySem PySem.Spec PyProof.Rows PySem.SeqAt

abbrev DTAX := DEnv → (List Dt → Prop) → (Dt → Prop) → Prop
section
variable {X : Cx} {e : Expr} {es : List Expr} {te : DTEX} {tl : DTA} {tx : DTAX} {pos : Pos}
def dConsX (te : DTEX) (tl : DTA) : DTAX := fun ρ Q E => te ρ (fun d => tl ρ fun ds => Q (d :: ds)) E
def dCallA (sp : DSp) (tx : DTAX) : DTEX := fun ρ Q E => tx ρ (fun ds => sp ds Q) E
end
end L2

namespace L2
open PySem PySem.Spec PyProof.Rows
section
variable {prog : Program} {w : World} {A : Around} {I S : Addr} {fp wr : List Addr} {n : Nat} {P : Nat → Value → Prop} {St : Nat → Heap → Prop} {bt : Nat → Nat → Bool} {R : Result → Shared → Prop}
end
variable {X : Cx}
theorem Vals.at {xs : List V} {us : List Value} (r : Vals xs us) : ∀ (i : Nat) (u : Value), us[i]? = some u → ∃ x, xs[i]? = some x ∧ RelV x u := by
  induction r with
  | nil => intro i u h; cases h
  | cons h t ih =>
    intro i u e
    cases i with
    | zero => exact ⟨_, rfl, by cases e; exact h⟩
    | succ i => exact ih i u e
theorem RpL.at' {K : PySem.W.Frag} {H : Hp} : ∀ {ds : List Dt} {vs : List V} (i : Nat) (v : V), RpL K H ds vs → vs[i]? = some v → ∃ d, ds[i]? = some d ∧ Rp K H d v
  | [], vs, i, v, h, e => by
    obtain rfl := rpl_nil.mp h
    cases e
  | d :: ds, vs, i, v, h, e => by
    obtain ⟨v', r, rfl, r2, r3⟩ := rpl_cons.mp h
    cases i with
    | zero => exact ⟨d, rfl, by cases e; exact r2⟩
    | succ i => exact RpL.at' i v r3 e
theorem RpL.len' {K : PySem.W.Frag} {H : Hp} : ∀ {ds : List Dt} {vs : List V}, RpL K H ds vs → vs.length = ds.length
  | [], vs, h => by
    obtain rfl := rpl_nil.mp h
    rfl
  | d :: ds, vs, h => by
    obtain ⟨v', r, rfl, r2, r3⟩ := rpl_cons.mp h
    rw [List.length_cons, List.length_cons, RpL.len' r3]
abbrev rowD' (ns : List Int) : Dt := .tup (ns.map Dt.int)
end L2

namespace L2
open PySem PySem.Spec PyProof.Rows
variable {X : Cx}
theorem rows_sq {K : PySem.W.Frag} {H : Hp} {nss : List (List Int)} {vs : List V} (h : RpL K H (nss.map rowD') vs) : vs.length = nss.length ∧ ∀ (i : Nat) (v : V), vs[i]? = some v → ∃ a, v = .ref a ∧ SqT K H a ((nss.getD i []).map V.int) := by
  refine ⟨by rw [RpL.len' h, List.length_map], fun i v e => ?_⟩
  obtain ⟨d, e1, r⟩ := RpL.at' i v h e
  rw [List.getElem?_map] at e1
  cases q : nss[i]? with
  | none => rw [q] at e1; cases e1
  | some ns =>
    rw [q] at e1
    cases e1
    have : nss.getD i [] = ns := by simp [List.getD, q]
    rw [this]
    obtain ⟨a, ys, rfl, ht, hy⟩ := rp_tup.mp r
    obtain rfl := ints_vs hy
    exact ⟨a, rfl, ht⟩
end L2

namespace L2
open PySem PySem.Spec PyProof.Rows PySem.SeqAt
section
variable {X : Cx} {e : Expr} {te : DTE}
def dValF (te : DTE) : DTA := fun ρ Q => te ρ fun d => match d with
  | .lst ks => (∃ r, Dt.tup r ∈ ks) ∧ Q ks
  | _ => False
theorem df_val (he : DE X e te) : DF X e (dValF te) where
  mono := fun hq z => he.mono (fun d z => by
    split at z
    · exact ⟨z.1, hq _ z.2⟩
    · exact z.elim) z
  pe := he.pe.imp fun σ H Q ⟨B, F, O, ρ, R, z⟩ => ⟨B, F, O, ρ, R, he.mono (fun d z v H1 s1 r1 => by
    split at z
    · obtain ⟨⟨rr, q2⟩, z⟩ := z
      obtain ⟨a, xs, rfl, ls, rl⟩ := rp_lst0.mp r1
      have ea : mask (F ++ O) H1 a = some (.lst xs) := by
        rcases ls with ls | ⟨_, hi⟩
        · exact ls
        · obtain ⟨v, hv, r⟩ := rl.memOf q2
          obtain ⟨_, _, rfl, _⟩ := rp_tup.mp r
          obtain ⟨i, e⟩ := hi _ hv
          cases e
      obtain ⟨na, ea⟩ := mask_some ea
      exact z a H1 xs s1 ea na rl
    · exact z.elim) z⟩
end
end L2

namespace L2
open PySem PySem.Spec PyProof.Rows
open PySem.W (KasT kas_asc kas_desc kas_tail3 kas_descPart kas_count kas_place kas_bin kas_sort kas_rev)
def kEval {α : Type} (bt : Nat → Nat → Bool) : KasT α → α
  | .ret a => a
  | .ask i j k => kEval bt (k (bt i j))
def kLow {α : Type} (n : Nat) (G : α → Prop) : KasT α → Prop
  | .ret a => G a
  | .ask i j k => i < n ∧ j < n ∧ ∀ b, kLow n G (k b)
theorem kLow.bind {α β : Type} {n : Nat} {G : α → Prop} {H : β → Prop} {f : α → KasT β} (hf : ∀ a, G a → kLow n H (f a)) : ∀ t : KasT α, kLow n G t → kLow n H (t.bind f)
  | .ret a, h => hf a h
  | .ask _ _ k, h => ⟨h.1, h.2.1, fun b => kLow.bind hf (k b) (h.2.2 b)⟩
theorem kLow.eval {α : Type} {n : Nat} {G : α → Prop} (bt : Nat → Nat → Bool) : ∀ t : KasT α, kLow n G t → G (kEval bt t)
  | .ret _, h => h
  | .ask i j k, h => kLow.eval bt (k (bt i j)) (h.2.2 _)
theorem kas_pure {α : Type} {n : Nat} {cmp : Nat → Nat → (Bool → Shared → Prop) → Shared → Prop} {bt : Nat → Nat → Bool} {s : Shared} (hc : ∀ i j, i < n → j < n → ∀ C : Bool → Shared → Prop, C (bt i j) s → cmp i j C s) {G : α → Prop} {Q : α → Shared → Prop} :
    ∀ t : KasT α, kLow n G t → Q (kEval bt t) s → t.kasWp cmp Q s
  | .ret _, _, q => q
  | .ask i j k, h, q => hc i j h.1 h.2.1 _ (kas_pure hc (k (bt i j)) (h.2.2 _) q)
abbrev Rg (n : Nat) : Array Nat := List.toArray (List.range n)
theorem rg_lt {n : Nat} {p : Array Nat} (n0 : 0 < n) (h : p.Perm (Rg n)) (i : Nat) : p.getD i 0 < n := by
  by_cases hi : i < p.size
  · have e : p.getD i 0 = p[i] := by simp [Array.getD, hi]
    rw [e]
    have := h.mem_iff.mp (Array.getElem_mem hi)
    simpa using this
  · simpa [Array.getD, hi] using n0
theorem rg_rev {n : Nat} {p : Array Nat} (h : p.Perm (Rg n)) (i j : Nat) : (kas_rev p i j).Perm (Rg n) := (mirror_perm p i j _).trans h
section
variable {n : Nat}
theorem low_asc {p : Array Nat} (n0 : 0 < n) (hp : p.Perm (Rg n)) : ∀ f m, kLow n (fun _ => True) (kas_asc p f m)
  | 0, _ => trivial
  | f + 1, m => ⟨rg_lt n0 hp _, rg_lt n0 hp _, fun b => by
    cases b
    · exact low_asc n0 hp f (m + 1)
    · trivial⟩
theorem low_desc (n0 : 0 < n) : ∀ (f : Nat) (p : Array Nat) (m q : Nat), p.Perm (Rg n) → kLow n (fun r : Array Nat × Nat × Nat => r.1.Perm (Rg n)) (kas_desc f p m q)
  | 0, _, _, _, hp => hp
  | f + 1, p, m, q, hp => ⟨rg_lt n0 hp _, rg_lt n0 hp _, fun b => by
    cases b
    · refine ⟨rg_lt n0 hp _, rg_lt n0 hp _, fun d => ?_⟩
      cases d
      · exact low_desc n0 f p (m + 1) (q + 1) hp
      · exact hp
    · show kLow n _ (if q > 0 then _ else _)
      split
      · exact low_desc n0 f _ (m + 1) 0 (rg_rev hp _ _)
      · exact low_desc n0 f p (m + 1) 0 hp⟩
theorem low_tail (n0 : 0 < n) {p : Array Nat} (hp : p.Perm (Rg n)) (m k : Nat) : kLow n (fun r : Nat × Array Nat => r.2.Perm (Rg n)) (kas_tail3 m k p) :=
  kLow.bind (n := n) (G := fun _ => True) (H := fun r : Nat × Array Nat => r.2.Perm (Rg n)) (f := fun j => KasT.ret (j, kas_rev p 0 m)) (fun _ _ => show (kas_rev p 0 m).Perm (Rg n) from rg_rev hp _ _) _ (low_asc n0 (rg_rev hp _ _) _ _)
theorem low_part (n0 : 0 < n) {p : Array Nat} (hp : p.Perm (Rg n)) (m k : Nat) : kLow n (fun r : Nat × Array Nat => r.2.Perm (Rg n)) (kas_descPart m k p) :=
  kLow.bind (fun r hr => by
    split
    · exact low_tail n0 (rg_rev hr _ _) _ _
    · exact low_tail n0 hr _ _) _ (low_desc n0 _ p _ _ hp)
theorem low_count (n0 : 0 < n) {p : Array Nat} (hp : p.Perm (Rg n)) (k : Nat) : kLow n (fun r : Nat × Array Nat => r.2.Perm (Rg n)) (kas_count k p) :=
  kLow.bind (fun m _ => by
    split
    · exact hp
    · split
      · refine ⟨rg_lt n0 hp _, rg_lt n0 hp _, fun b => ?_⟩
        cases b
        · exact low_part n0 (rg_rev hp _ _) _ _
        · exact hp
      · exact low_part n0 hp _ _) _ (low_asc n0 hp _ _)
theorem low_place (n0 : 0 < n) {p : Array Nat} (hp : p.Perm (Rg n)) (k : Nat) : ∀ f l r, kLow n (fun _ => True) (kas_place p k f l r)
  | 0, _, _ => trivial
  | f + 1, l, r => by
    show kLow n _ (if l ≥ r then _ else _)
    split
    · trivial
    · refine ⟨rg_lt n0 hp _, rg_lt n0 hp _, fun b => ?_⟩
      cases b
      · exact low_place n0 hp k f _ _
      · exact low_place n0 hp k f _ _
theorem low_bin (n0 : 0 < n) : ∀ (f : Nat) (p : Array Nat) (k : Nat), p.Perm (Rg n) → kLow n (fun r : Array Nat => r.Perm (Rg n)) (kas_bin f p k)
  | 0, _, _, hp => hp
  | f + 1, p, k, hp => kLow.bind (fun l _ => low_bin n0 f _ (k + 1) ((bubble_perm p k (k - l)).trans hp)) _ (low_place n0 hp k _ _ _)
theorem low_sort (n0 : 0 < n) : kLow n (fun r : Array Nat => r.Perm (Rg n)) (kas_sort n) :=
  kLow.bind (fun r hr => by
    split
    · exact low_bin n0 _ r.2 _ hr
    · exact hr) _ (low_count n0 (Array.Perm.refl _) _)
end
def sortIx (bt : Nat → Nat → Bool) (n : Nat) : List Nat := (kEval bt (kas_sort n)).toList
theorem sortIx_perm (bt : Nat → Nat → Bool) (n : Nat) : (sortIx bt n).Perm (List.range n) := by
  rcases Nat.eq_zero_or_pos n with rfl | h
  · exact List.Perm.refl _
  · have := (low_sort h).eval bt
    exact Array.perm_iff_toList_perm.mp this
section
variable {prog : Program} {w : World} {A : Around} {E : Value → Shared → Prop} {s : Shared}
theorem lex_rows {Q : Bool → Shared → Prop} : ∀ (vs us : List Value) (ns ms : List Int) (i : Nat), IntsAre vs ns → IntsAre us ms → Q (HT.lexLt ns ms) s → PySem.W.KatLex prog w A true (decide (vs.length < us.length)) Q (vs.zip us) i s
  | _, _, _, _, _, .nil, .nil, q => q
  | _, _, _, _, _, .nil, .cons _ _ _, q => by
    rw [decide_eq_true (by simp)]
    exact PySem.W.kat_nil q
  | _, _, _, _, _, .cons _ _ _, .nil, q => by
    rw [decide_eq_false (by simp)]
    exact PySem.W.kat_nil q
  | _, _, _, _, i, .cons (vs := vs) (ns := ns) a t h1, .cons (vs := us) (ns := ms) b u h2, q => by
    rw [HT.lexLt_cons] at q
    refine PySem.W.kat_cons (wpAny_eqBool_int (PySem.W.kat_go (fun e => PySem.W.kat_yes ?_) (fun e => PySem.W.kat_no ?_)))
    · have e : a = b := by simpa using e
      rw [if_pos e] at q
      have := lex_rows vs us ns ms (i + 1) h1 h2 q
      rw [show decide ((Value.int a t :: vs).length < (Value.int b u :: us).length) = decide (vs.length < us.length) from decide_eq_decide.mpr (by simp)]
      exact this
    · have e : ¬ a = b := by simpa using e
      rw [if_neg e] at q
      cases hi : (true && i == 0) with
      | true => exact oneLt_int q
      | false => exact PySem.W.kat_one _ _ (richCompare_gives (op := .Lt) (typeIs_int s _ t) (typeIs_int s _ u) F.slot_int_lt F.entry_int_lt (F.args_int_lt_2 _ _) (gives_int_lt _ _ t u) (fun x => nomatch x) q)
theorem key_rows {x y : Addr} {xs ys : Array Value} {ns ms : List Int} {Q : Bool → Shared → Prop} (hx : IsTup s.heap x xs) (hy : IsTup s.heap y ys) (hi : IntsAre xs.toList ns) (hj : IntsAre ys.toList ms) (q : Q (HT.lexLt ns ms) s) :
    wpAny (model prog w) A (keyLt' (tuples' true) (.ref x) (.ref y)) Q E s := by
  obtain ⟨o1, g1, _, n1, d1⟩ := hx
  obtain ⟨o2, g2, _, n2, d2⟩ := hy
  have := lex_rows (prog := prog) (w := w) (A := A) (Q := Q) xs.toList ys.toList ns ms 0 hi hj q
  exact PySem.W.kat_lt g1 d1 g2 d2 (by simpa using this)
def But (a : Addr) (h h' : Heap) : Prop := ∀ b o, b ≠ a → h.get? b = some o → h'.get? b = some o
theorem zip_snd : ∀ vs : List Value, (vs.zip vs).map (·.2) = vs
  | [] => rfl
  | v :: vs => by rw [List.zip_cons_cons, List.map_cons, zip_snd vs]
theorem sort_small {vs : List Value} (bt : Nat → Nat → Bool) (h : vs.length < 2) : (sortIx bt vs.length).map (fun i => vs.getD i Value.none) = vs := by
  match vs, h with
  | [], _ => rfl
  | [v], _ => rfl
theorem list_sort_in {a : Addr} {vs : List Value} {n : Nat} {κ : SortKind} {bt : Nat → Nat → Bool} {P : PySem.Fin → Shared → Prop} (ho : s.heap.get? a = some (seqObj "list" vs.toArray n)) (h64 : vs.length < 64)
    (hk : ∀ h' : Heap, But a s.heap h' → 2 ≤ vs.length → ∀ Q : SortKind → Shared → Prop, Q κ { s with heap := h' } → wpAny (model prog w) A (keyKind' vs.toArray) Q (fun _ _ => False) { s with heap := h' })
    (hl : ∀ h' : Heap, But a s.heap h' → ∀ i j, i < vs.length → j < vs.length → ∀ C : Bool → Shared → Prop, C (bt i j) { s with heap := h' } → PySem.W.kas_ask prog w A κ vs i j C { s with heap := h' })
    (fin : ∀ (h' : Heap) (c : Nat), But a s.heap h' → h'.get? a = some (seqObj "list" (List.toArray ((sortIx bt vs.length).map fun i => vs.getD i Value.none)) c) → P (.done (.ret .none)) { s with heap := h' }) :
    wpAny (model prog w) A (Builtin.«list.sort» ⟨[.ref a], []⟩) P E s := by
  have la : a < s.heap.objs.size := Heap.lt_size ho
  have sl : vs.length ≤ sizeLine := by rw [sizeLine_eq]; omega
  obtain ⟨c1, g1⟩ : ∃ c, (s.heap.update a (Obj.mapSeq fun _ => (#[] : Array Value))).get? a = some (seqObj "list" #[] c) := ⟨_, get?_update_seq ho fun _ => #[]⟩
  obtain ⟨h3, e3⟩ : ∃ h3, h3 = ((s.heap.update a (Obj.mapSeq fun _ => (#[] : Array Value))).push (seqObj "tuple" vs.toArray 0)).push (seqObj "list" #[] 0) := ⟨_, rfl⟩
  have g3 : h3.get? a = some (seqObj "list" #[] c1) := by rw [e3]; exact Heap.get?_push_of_some _ (Heap.get?_push_of_some _ g1)
  have k3 : But a s.heap h3 := fun b o ne e => by
    rw [e3]
    exact Heap.get?_push_of_some _ (Heap.get?_push_of_some _ ((Heap.get?_update_other _ _ (Ne.symm ne)).trans e))
  have last : ∀ out : List Value, out.length ≤ sizeLine → out = (sortIx bt vs.length).map (fun i => vs.getD i Value.none) → ∃ c2, (h3.update a (Obj.mapSeq fun _ => out.toArray)).get? a = some (seqObj "list" out.toArray c2) ∧ P (.done (.ret .none)) { s with heap := h3.update a (Obj.mapSeq fun _ => out.toArray) } := fun out _ eo => by
    obtain ⟨c2, g⟩ : ∃ c, (h3.update a (Obj.mapSeq fun _ => out.toArray)).get? a = some (seqObj "list" out.toArray c) := ⟨_, get?_update_seq g3 fun _ => out.toArray⟩
    refine ⟨c2, g, fin _ c2 (fun b o ne e => (Heap.get?_update_other _ _ (Ne.symm ne)).trans (k3 b o ne e)) ?_⟩
    rw [← eo]; exact g
  rw [list_sort_plain]
  refine wpAny_bind (listItems_at ho rfl (wpAny_bind (listUpdate_at ho rfl ?_ (by rw [List.size_toArray]; exact sl) (Nat.zero_le _))))
  refine wpAny_bind (seqEpoch_at g1 rfl (wpAny_bind (wpAny_newTuple ?_ (by show vs.length ≤ _; exact sl))))
  refine wpAny_bind (wpAny_newList (wpAny_holding ?_) (Nat.zero_le _))
  show wpAny (model prog w) A _ P E { s with heap := ((s.heap.update a (Obj.mapSeq fun _ => (#[] : Array Value))).push (seqObj "tuple" vs.toArray 0)).push (seqObj "list" #[] 0) }
  rw [← e3]
  dsimp only
  by_cases few : vs.toArray.size < 2
  · rw [if_pos few, if_pos few]
    have few' : vs.length < 2 := by simpa using few
    refine wpAny_bind (wpAny_pure ?_); rw [StateT.run_pure]; refine wpAny_bind (wpAny_pure ?_)
    dsimp only
    have eo : (arrOf (SortSt.mk' general' (vs.toArray.zip vs.toArray) #[] 7 none)).map (·.2) = vs.toArray := by
      show (vs.toArray.zip vs.toArray).map (·.2) = vs.toArray
      rw [← Array.toList_inj, Array.toList_map, Array.toList_zip]
      exact zip_snd vs
    rw [eo]
    obtain ⟨c2, g, q⟩ := last vs sl (sort_small bt few').symm
    refine wpAny_bind (seqEpoch_at g3 rfl (wpAny_bind (listUpdate_at g3 rfl ?_ (Nat.zero_le _) (by rw [List.size_toArray]; exact Nat.le_succ_of_le sl))))
    simp only [bne_self_eq_false, Bool.false_eq_true, if_false]
    exact wpAny_pure q
  · rw [if_neg few, if_neg few]
    have many : 2 ≤ vs.length := by
      have : ¬ vs.length < 2 := by simpa using few
      omega
    refine wpAny_bind (wpAny_mono (hk h3 k3 many (fun κ' s' => κ' = κ ∧ s' = { s with heap := h3 }) ⟨rfl, rfl⟩) ?_ fun _ _ x => x.elim)
    rintro κ' s' ⟨rfl, rfl⟩
    have tree := kas_pure (hl h3 k3) (Q := fun p s' => p = kEval bt (kas_sort vs.length) ∧ s' = { s with heap := h3 }) (kas_sort vs.length) (low_sort (by omega)) ⟨rfl, rfl⟩
    refine wpAny_bind (wpAny_mono (PySem.W.kat_run (Q := fun st' s' => (arrOf st').map (·.2) = List.toArray ((sortIx bt vs.length).map fun i => vs.getD i Value.none) ∧ failedOf st' = none ∧ s' = { s with heap := h3 }) rfl many h64 (fun p st' s' _ a2 a3 a4 => ⟨?_, a3, a4.2⟩) tree) ?_ fun _ _ e => e)
    · rw [PySem.W.kat_snds rfl a2, a4.1]; rfl
    · rintro ⟨⟨⟩, st'⟩ s' ⟨x1, x2, rfl⟩
      dsimp only
      rw [x1]
      have ol : ((sortIx bt vs.length).map fun i => vs.getD i Value.none).length ≤ sizeLine := by rw [List.length_map, (sortIx_perm bt _).length_eq, List.length_range]; exact sl
      obtain ⟨c2, g, q⟩ := last _ ol rfl
      refine wpAny_bind (seqEpoch_at g3 rfl (wpAny_bind (listUpdate_at g3 rfl ?_ (Nat.zero_le _) (by rw [List.size_toArray]; exact Nat.le_succ_of_le ol))))
      rw [x2]
      simp only [bne_self_eq_false, Bool.false_eq_true, if_false]
      exact wpAny_pure q
theorem sorted_in {l : Addr} {vs : List Value} {κ : SortKind} {bt : Nat → Nat → Bool} {Q : Value → Shared → Prop} (hl : s.heap.IsList l vs.toArray) (h64 : vs.length < 64)
    (hk : ∀ h' : Heap, (∀ b o, s.heap.get? b = some o → h'.get? b = some o) → 2 ≤ vs.length → ∀ R : SortKind → Shared → Prop, R κ { s with heap := h' } → wpAny (model prog w) A.in1.in1 (keyKind' vs.toArray) R (fun _ _ => False) { s with heap := h' })
    (hc : ∀ h' : Heap, (∀ b o, s.heap.get? b = some o → h'.get? b = some o) → ∀ i j, i < vs.length → j < vs.length → ∀ C : Bool → Shared → Prop, C (bt i j) { s with heap := h' } → PySem.W.kas_ask prog w A.in1.in1 κ vs i j C { s with heap := h' })
    (fin : ∀ (h' : Heap) (D : Addr) (c : Nat), (∀ b o, s.heap.get? b = some o → h'.get? b = some o) → s.heap.objs.size ≤ D → h'.get? D = some (seqObj "list" (List.toArray ((sortIx bt vs.length).map fun i => vs.getD i Value.none)) c) → Q (.ref D) { s with heap := h' }) :
    wpAny (model prog w) A (call (.builtin "sorted") [.ref l]) Q E s := by
  have sl : vs.length ≤ sizeLine := by rw [sizeLine_eq]; omega
  obtain ⟨h1, e1⟩ : ∃ h1, h1 = (s.heap.push (seqObj "list" #[] 0)).update s.heap.objs.size (Obj.mapSeq (· ++ vs.toArray)) := ⟨_, rfl⟩
  have z1 : h1.objs.size = s.heap.objs.size + 1 := by rw [e1, Heap.size_update, size_push']
  have kp : ∀ b o, s.heap.get? b = some o → (h1.push (seqObj "list" vs.toArray 0)).get? b = some o := fun b o q => by
    have lb : b < s.heap.objs.size := Heap.lt_size q
    refine Heap.get?_push_of_some _ ?_
    rw [e1, Heap.get?_update_ne _ _ _ _ (Nat.ne_of_lt lb)]
    exact Heap.get?_push_of_some _ q
  have gD : (h1.push (seqObj "list" vs.toArray 0)).get? h1.objs.size = some (seqObj "list" vs.toArray 0) := Heap.get?_push_size _ rfl
  have low : ∀ (h' : Heap), But h1.objs.size (h1.push (seqObj "list" vs.toArray 0)) h' → ∀ b o, s.heap.get? b = some o → h'.get? b = some o := fun h' k b o q => by
    have lb : b < s.heap.objs.size := Heap.lt_size q
    exact k b o (Nat.ne_of_lt (by rw [z1]; exact Nat.lt_succ_of_lt lb)) (kp b o q)
  refine Calls.call_function_entry kind_sorted plain_sorted entry_sorted (args_sorted1 _) ?_
  unfold Builtin.«sorted»
  refine wpAny_bind (m := checkCount "sorted" 1 1 _) (wpAny_pure (wpAny_bind (collect_list hl ?_ (by rw [sizeLine_eq]; omega))))
  refine wpAny_bind (wpAny_newList ?_ (by rw [sizeLine_eq]; omega))
  show wpAny _ _ _ _ _ { s with heap := ((s.heap.push (seqObj "list" #[] 0)).update s.heap.objs.size (Obj.mapSeq (· ++ vs.toArray))).push (seqObj "list" vs.toArray 0) }
  rw [← e1]
  refine wpAny_bind (wpAny_holding (wpAny_call_entry slot_list_sort ⟨_, gD, rfl⟩ entry_list_sort ?_ (args_list_sort _)))
  refine list_sort_in (s := { s with heap := h1.push (seqObj "list" vs.toArray 0) }) (κ := κ) (bt := bt) gD h64 (fun h' k => hk h' (low h' k)) (fun h' k => hc h' (low h' k)) fun h' c k g => ?_
  exact ⟨_, rfl, wpAny_pure ⟨_, rfl, fin h' _ c (low h' k) (by rw [z1]; omega) g⟩⟩
end
theorem tups_of {h : Heap} : ∀ its : List Value, (∀ v ∈ its, ∃ a xs ns, v = .ref a ∧ IsTup h a xs ∧ IntsAre xs.toList ns ∧ ns ≠ []) → ∃ fs, PySem.W.KatTups h its fs ∧ fs.length = its.length ∧ ∀ f ∈ fs, ∃ n t, f = Value.int n t
  | [], _ => ⟨[], PySem.W.KatTups.nil, rfl, fun _ z => by cases z⟩
  | v :: its, hv => by
    obtain ⟨fs, k, lf, ff⟩ := tups_of its fun x hx => hv x (.tail _ hx)
    obtain ⟨a, xs, ns, rfl, ⟨o, g, c, n, d⟩, hi, ne⟩ := hv v (.head _)
    cases hx : xs.toList with
    | nil => rw [hx] at hi; cases hi; exact absurd rfl ne
    | cons x r =>
      rw [hx] at hi
      cases hi with
      | cons m t _ =>
        have e0 : xs[0]? = some (Value.int m t) := by rw [← Array.getElem?_toList, hx]; rfl
        refine ⟨.int m t :: fs, PySem.W.KatTups.cons g c d e0 k, by rw [List.length_cons, List.length_cons, lf], fun f hf => ?_⟩
        rcases List.mem_cons.mp hf with rfl | hf
        · exact ⟨m, t, rfl⟩
        · exact ff f hf
theorem vals_pick {xs : List V} {us : List Value} (r : Vals xs us) : ∀ ix : List Nat, (∀ i ∈ ix, i < xs.length) → Vals (ix.map fun i => xs.getD i V.non) (ix.map fun i => us.getD i Value.none)
  | [], _ => .nil
  | i :: ix, h => by
    have hi : i < xs.length := h i (.head _)
    obtain ⟨u, eu, ru⟩ := Vals.get (i := i) (x := xs[i]) r (List.getElem?_eq_getElem hi)
    have e1 : xs.getD i V.non = xs[i] := by simp [List.getD, hi]
    have e2 : us.getD i Value.none = u := by simp [List.getD, eu]
    rw [List.map_cons, List.map_cons, e1, e2]
    exact .cons ru (vals_pick r ix fun j hj => h j (.tail _ hj))
variable {X : Cx}
def rSortT (K : PySem.W.Frag) : List V → Hp → VK → Prop := fun xs H Q => ∃ p vs, ∃ nss : Nat → List Int, xs = [.ref p] ∧ SqL K H p vs ∧ vs.length < 64 ∧ (∀ (i : Nat) (v : V), vs[i]? = some v → ∃ a, v = .ref a ∧ SqT K H a ((nss i).map V.int) ∧ nss i ≠ []) ∧
  ∀ l, H l = none → Q (.ref l) (upd H l (.lst ((sortIx (fun i j => HT.lexLt (nss i) (nss j)) vs.length).map fun i => vs.getD i V.non)))
theorem call_sortT : CallR X (.builtin "sorted") (rSortT X.K) := by
  intro pins s σ H xs us Q I r h
  obtain ⟨p, vs, nss, rfl, hl, h64, each, q⟩ := h
  obtain ⟨u, rfl, r1⟩ := vals1 r
  cases r1
  obtain ⟨its, rv, pl, hz⟩ := I.list hl
  have hlen : its.length = vs.length := rv.length.symm
  have row : ∀ h' : Heap, (∀ b o, s.heap.get? b = some o → h'.get? b = some o) → ∀ (i : Nat) (v : Value), its[i]? = some v → ∃ a xs, v = .ref a ∧ IsTup h' a xs ∧ IntsAre xs.toList (nss i) ∧ nss i ≠ [] := fun h' k i v e => by
    obtain ⟨x, e1, r2⟩ := Vals.at rv i v e
    obtain ⟨a, rfl, ht, ne⟩ := each i x e1
    cases r2
    obtain ⟨ys, r3, ⟨o, g, rest⟩, _⟩ := I.tuple ht
    exact ⟨a, ys.toArray, rfl, ⟨o, k a o g, rest⟩, intsAre_of r3, ne⟩
  refine sorted_in (κ := tuples' true) (bt := fun i j => HT.lexLt (nss i) (nss j)) (vs := its) pl.isList (by omega) (fun h' k _ R hR => ?_) (fun h' k i j hi hj C hC => ?_) fun h' D c k hD g => ?_
  · obtain ⟨fs, kt, lf, ff⟩ := tups_of (h := h') its fun v hv => by
      obtain ⟨i, hi, e⟩ := List.getElem_of_mem hv
      obtain ⟨a, xs, e1, t, n, ne⟩ := row h' k i v (by rw [← e]; exact List.getElem?_eq_getElem hi)
      exact ⟨a, xs, _, e1, t, n, ne⟩
    refine PySem.W.kat_kind (s := { s with heap := h' }) (T := .type "int") kt (by omega) (fun v hv => ?_) (by decide) hR
    obtain ⟨n, t, rfl⟩ := ff v hv
    exact .now
  · obtain ⟨a, xs, e1, t1, n1, _⟩ := row h' k i _ (List.getElem?_eq_getElem hi)
    obtain ⟨b, ys, e2, t2, n2, _⟩ := row h' k j _ (List.getElem?_eq_getElem hj)
    have d1 : its.getD i Value.none = .ref a := by simp [List.getD, hi, e1]
    have d2 : its.getD j Value.none = .ref b := by simp [List.getD, hj, e2]
    unfold PySem.W.kas_ask
    rw [d1, d2]
    exact key_rows (s := { s with heap := h' }) t1 t2 n1 n2 hC
  · have ib : ∀ i ∈ sortIx (fun i j => HT.lexLt (nss i) (nss j)) its.length, i < vs.length := fun i hi => by
      have := (sortIx_perm _ _).mem_iff.mp hi
      rw [← hlen]
      exact List.mem_range.mp this
    have vp := vals_pick rv _ ib
    rw [hlen] at vp g
    have lz : ((sortIx (fun i j => HT.lexLt (nss i) (nss j)) vs.length).map fun i => vs.getD i V.non).length ≤ sizeLine := by
      rw [List.length_map, (sortIx_perm _ _).length_eq, List.length_range]
      exact hz
    exact ⟨.ref D, _, I.laid (t' := s.toks) k hD (show ObjOk X.prog X.w _ h' _ (.lst _) from ⟨lz, _, c, vp, g⟩), rfl, q _ (I.hok.fresh hD)⟩
def sortR (nss : List (List Int)) : List (List Int) := (sortIx (fun i j => HT.lexLt (nss.getD i []) (nss.getD j [])) nss.length).map fun i => nss.getD i []
theorem sortR_perm (nss : List (List Int)) : (sortR nss).Perm nss := by
  have h := (sortIx_perm (fun i j => HT.lexLt (nss.getD i []) (nss.getD j [])) nss.length).map fun i => nss.getD i []
  have e : (List.range nss.length).map (fun i => nss.getD i []) = nss := by
    refine List.ext_getElem (by simp) fun i h1 h2 => ?_
    simp [List.getD, h2]
  rw [e] at h
  exact h
def dSortT : DL := fun ds Q => ∃ nss : List (List Int), ds = [.lst (nss.map rowD')] ∧ nss.length < 64 ∧ (∀ r ∈ nss, r ≠ []) ∧ Q (.lst ((sortR nss).map rowD'))
theorem rpl_pick {K : PySem.W.Frag} {H : Hp} {nss : List (List Int)} {vs : List V} (r : RpL K H (nss.map rowD') vs) : ∀ ix : List Nat, (∀ i ∈ ix, i < nss.length) → RpL K H (ix.map fun i => rowD' (nss.getD i [])) (ix.map fun i => vs.getD i V.non)
  | [], _ => RpL.nil
  | i :: ix, h => by
    have hi : i < nss.length := h i (.head _)
    have hv : i < vs.length := by rw [RpL.len' r, List.length_map]; exact hi
    obtain ⟨d, e1, r1⟩ := RpL.at' i vs[i] r (List.getElem?_eq_getElem hv)
    have e2 : d = rowD' (nss.getD i []) := by
      rw [List.getElem?_map, List.getElem?_eq_getElem hi] at e1
      cases e1
      simp [List.getD, hi]
    have e3 : vs.getD i V.non = vs[i] := by simp [List.getD, hv]
    rw [List.map_cons, List.map_cons, e3, ← e2]
    exact RpL.cons r1 (rpl_pick r ix fun j hj => h j (.tail _ hj))
theorem sem_sortT {K : PySem.W.Frag} : SemL K (rSortT K) dSortT where
  mono := fun hq ⟨nss, e, l, n, h⟩ => ⟨nss, e, l, n, hq _ h⟩
  ok := fun O H ds xs Q hO r ⟨nss, e, l64, ne, h⟩ => by
    subst e
    obtain ⟨x, r', rfl, ra, r3⟩ := rpl_cons.mp r
    obtain rfl := rpl_nil.mp r3
    obtain ⟨p, vs, rfl, hs, hl⟩ := rp_lstE ra
    obtain ⟨ll, each⟩ := rows_sq hl
    refine ⟨p, vs, fun i => nss.getD i [], rfl, (mask_le (O := O) (H := H)).seq hs, by omega, fun i v e => ?_, fun l hn => ?_⟩
    · obtain ⟨a, ea, ht⟩ := each i v e
      have hi : i < nss.length := by
        have := (List.getElem?_eq_some_iff.mp e).1
        omega
      refine ⟨a, ea, (mask_le (O := O) (H := H)).seqT ht, ne _ ?_⟩
      have : nss.getD i [] = nss[i] := by simp [List.getD, hi]
      show nss.getD i [] ∈ nss
      rw [this]
      exact List.getElem_mem hi
    · have nl : l ∉ O := fun z => hO l z hn
      refine h _ _ (Same.upd hn) (rp_lstI ⟨l, _, rfl, mask_upd nl, ?_⟩)
      have rp := rpl_pick hl (sortIx (fun i j => HT.lexLt (nss.getD i []) (nss.getD j [])) nss.length) fun i hi => List.mem_range.mp ((sortIx_perm _ _).mem_iff.mp hi)
      have em : (sortR nss).map rowD' = (sortIx (fun i j => HT.lexLt (nss.getD i []) (nss.getD j [])) nss.length).map fun i => rowD' (nss.getD i []) := by
        unfold sortR
        rw [List.map_map]
        rfl
      rw [em, ll]
      exact rp.mono (Same.upd hn).mask
theorem de_sortT {a : Expr} {tl : DTA} {p pos : Pos} (hm : X.mg "sorted" = none) (ha : DA X [a] tl) (hg : Gl X "sorted" := by rfl) (hv : bootBuiltins "sorted" = some (.builtin "sorted") := by rfl) (he : starEach [a] X.env = (false, eval a X.env) :: starEach [] X.env := by rfl)
    (hpl : (backTo pos (starEach [] X.env)).any (·.1) = false := by rfl) : DE X (.Call (.Name "sorted" p) [a] [] pos) (dCB dSortT tl) := de_cb call_sortT sem_sortT hg hm hv ha (he := he) (hpl := hpl)
end L2

namespace L2
open PySem PySem.Spec PyProof.Rows
open PySem.W (KasT kas_asc kas_desc kas_tail3 kas_descPart kas_count kas_place kas_bin kas_sort kas_rev)
theorem kEval_bind {α β : Type} (bt : Nat → Nat → Bool) (f : α → KasT β) : ∀ t : KasT α, kEval bt (t.bind f) = kEval bt (f (kEval bt t))
  | .ret _ => rfl
  | .ask i j k => kEval_bind bt f (k (bt i j))
structure StrictO (bt : Nat → Nat → Bool) : Prop where
  asy : ∀ i j, bt i j = true → bt j i = false
  neg : ∀ i j k, bt j i = false → bt k j = false → bt k i = false
theorem StrictO.irr {bt : Nat → Nat → Bool} (O : StrictO bt) (i : Nat) : bt i i = false := by
  cases h : bt i i
  · rfl
  · have := O.asy i i h
    rw [h] at this
    exact this
abbrev gt (p : Array Nat) (i : Nat) : Nat := p.getD i 0
theorem rev_at {p : Array Nat} {i j : Nat} (hj : j ≤ p.size) (k : Nat) : gt (kas_rev p i j) k = if i ≤ k ∧ k < j then gt p (i + j - 1 - k) else gt p k := by
  have h := getElem?_mirror_all (xs := p) (i := i) hj k
  unfold gt kas_rev
  simp only [Array.getD_eq_getD_getElem?]
  rw [h]
  split <;> rfl
theorem rev_size (p : Array Nat) (i j : Nat) : (kas_rev p i j).size = p.size := mirror_size _ _ _ _
theorem bub_at {p : Array Nat} {src d : Nat} (hs : src < p.size) (hd : d ≤ src) (k : Nat) : gt (bubble p src d) k = if k = src - d then gt p src else if src - d < k ∧ k ≤ src then gt p (k - 1) else gt p k := by
  have h := getElem?_bubble (xs := p) hs d hd k
  unfold gt
  simp only [Array.getD_eq_getD_getElem?]
  rw [h]
  repeat' split
  all_goals first | rfl | (exfalso; omega) | (congr 2; omega)
section
variable {bt : Nat → Nat → Bool} (O : StrictO bt)
def Up (bt : Nat → Nat → Bool) (p : Array Nat) (m : Nat) : Prop := ∀ i j, i < j → j < m → bt (gt p j) (gt p i) = false
def Dn (bt : Nat → Nat → Bool) (p : Array Nat) (m : Nat) : Prop := ∀ i j, i < j → j < m → bt (gt p i) (gt p j) = false
def Fl (bt : Nat → Nat → Bool) (p : Array Nat) (m q : Nat) : Prop := ∀ i j, m ≤ i + q + 1 → i < m → m ≤ j + q + 1 → j < m → bt (gt p i) (gt p j) = false
include O
theorem Up.succ {p : Array Nat} {m : Nat} (h : Up bt p m) (m0 : 0 < m) (hb : bt (gt p m) (gt p (m - 1)) = false) : Up bt p (m + 1) := fun i j hi hj => by
  by_cases e : j = m
  · subst e
    by_cases e2 : i = j - 1
    · subst e2; exact hb
    · exact O.neg _ (gt p (j - 1)) _ (h i (j - 1) (by omega) (by omega)) hb
  · exact h i j hi (by omega)
theorem Dn.succ {p : Array Nat} {m : Nat} (h : Dn bt p m) (m0 : 0 < m) (hb : bt (gt p (m - 1)) (gt p m) = false) : Dn bt p (m + 1) := fun i j hi hj => by
  by_cases e : j = m
  · subst e
    by_cases e2 : i = j - 1
    · subst e2; exact hb
    · exact O.neg _ (gt p (j - 1)) _ hb (h i (j - 1) (by omega) (by omega))
  · exact h i j hi (by omega)
theorem up_asc {p : Array Nat} : ∀ f m, 0 < m → Up bt p m → Up bt p (kEval bt (kas_asc p f m)) ∧ m ≤ kEval bt (kas_asc p f m) ∧ kEval bt (kas_asc p f m) ≤ m + f ∧ (kEval bt (kas_asc p f m) < m + f → bt (gt p (kEval bt (kas_asc p f m))) (gt p (kEval bt (kas_asc p f m) - 1)) = true)
  | 0, m, _, h => ⟨h, Nat.le_refl _, Nat.le_refl _, fun z => absurd z (Nat.lt_irrefl _)⟩
  | f + 1, m, m0, h => by
    have e : kEval bt (kas_asc p (f + 1) m) = if bt (gt p m) (gt p (m - 1)) = true then m else kEval bt (kas_asc p f (m + 1)) := by
      show kEval bt (if bt (gt p m) (gt p (m - 1)) = true then KasT.ret m else kas_asc p f (m + 1)) = _
      split <;> rfl
    rw [e]
    by_cases hb : bt (gt p m) (gt p (m - 1)) = true
    · rw [if_pos hb]
      exact ⟨h, Nat.le_refl _, by omega, fun _ => hb⟩
    · rw [if_neg hb]
      obtain ⟨a, b, c, d⟩ := up_asc f (m + 1) (by omega) (Up.succ O h m0 (by simpa using hb))
      exact ⟨a, by omega, by omega, fun z => d (by omega)⟩
theorem Dn.rev {p : Array Nat} {m q : Nat} (hs : m ≤ p.size) (hq : q < m) (h : Dn bt p m) (hf : Fl bt p m q) : Dn bt (kas_rev p (m - (q + 1)) m) m ∧ Fl bt (kas_rev p (m - (q + 1)) m) m q := by
  refine ⟨fun i j hi hj => ?_, fun i j hi1 hi2 hj1 hj2 => ?_⟩
  · rw [rev_at hs, rev_at hs]
    by_cases e1 : m - (q + 1) ≤ i ∧ i < m
    · rw [if_pos e1, if_pos (by omega)]
      exact hf _ _ (by omega) (by omega) (by omega) (by omega)
    · rw [if_neg e1]
      by_cases e2 : m - (q + 1) ≤ j ∧ j < m
      · rw [if_pos e2]
        exact h _ _ (by omega) (by omega)
      · rw [if_neg e2]
        exact h _ _ hi hj
  · rw [rev_at hs, rev_at hs, if_pos (by omega), if_pos (by omega)]
    exact hf _ _ (by omega) (by omega) (by omega) (by omega)
theorem dn_desc : ∀ (f : Nat) (p : Array Nat) (m q : Nat), m + f ≤ p.size → q < m → Dn bt p m → Fl bt p m q →
    Dn bt (kEval bt (kas_desc f p m q)).1 (kEval bt (kas_desc f p m q)).2.1 ∧ Fl bt (kEval bt (kas_desc f p m q)).1 (kEval bt (kas_desc f p m q)).2.1 (kEval bt (kas_desc f p m q)).2.2 ∧ m ≤ (kEval bt (kas_desc f p m q)).2.1 ∧ (kEval bt (kas_desc f p m q)).2.1 ≤ m + f ∧ (kEval bt (kas_desc f p m q)).2.2 < (kEval bt (kas_desc f p m q)).2.1 ∧ (kEval bt (kas_desc f p m q)).1.size = p.size
  | 0, p, m, q, hs, hq, h, hf => ⟨h, hf, Nat.le_refl _, Nat.le_refl _, hq, rfl⟩
  | f + 1, p, m, q, hs, hq, h, hf => by
    have one : ∀ p : Array Nat, Dn bt p (m + 1) → Fl bt p (m + 1) 0 := fun p _ i j h1 h2 h3 h4 => by
      have : i = j := by omega
      subst this
      exact O.irr _
    have e : kEval bt (kas_desc (f + 1) p m q) = if bt (gt p m) (gt p (m - 1)) = true then (if q > 0 then kEval bt (kas_desc f (kas_rev p (m - (q + 1)) m) (m + 1) 0) else kEval bt (kas_desc f p (m + 1) 0))
        else if bt (gt p (m - 1)) (gt p m) = true then (p, m, q) else kEval bt (kas_desc f p (m + 1) (q + 1)) := by
      show kEval bt (if bt (gt p m) (gt p (m - 1)) = true then (if q > 0 then kas_desc f (kas_rev p (m - (q + 1)) m) (m + 1) 0 else kas_desc f p (m + 1) 0) else KasT.ask (gt p (m - 1)) (gt p m) fun d => if d = true then .ret (p, m, q) else kas_desc f p (m + 1) (q + 1)) = _
      split
      · split <;> rfl
      · show kEval bt (if bt (gt p (m - 1)) (gt p m) = true then KasT.ret (p, m, q) else kas_desc f p (m + 1) (q + 1)) = _
        split <;> rfl
    rw [e]
    by_cases hb : bt (gt p m) (gt p (m - 1)) = true
    · rw [if_pos hb]
      by_cases q0 : q > 0
      · rw [if_pos q0]
        obtain ⟨d1, f1⟩ := Dn.rev O (by omega) hq h hf
        have hm : bt (gt (kas_rev p (m - (q + 1)) m) (m - 1)) (gt (kas_rev p (m - (q + 1)) m) m) = false := by
          rw [rev_at (by omega), rev_at (by omega), if_pos (by omega), if_neg (by omega)]
          refine O.asy _ _ ?_
          cases hx : bt (gt p m) (gt p (m - (q + 1) + m - 1 - (m - 1)))
          · have h1 := hf (m - (q + 1) + m - 1 - (m - 1)) (m - 1) (by omega) (by omega) (by omega) (by omega)
            have := O.neg _ _ _ h1 hx
            rw [hb] at this
            cases this
          · rfl
        have d2 := Dn.succ O d1 (by omega) hm
        obtain ⟨a1, a2, a3, a4, a5, a6⟩ := dn_desc f _ (m + 1) 0 (by rw [rev_size]; omega) (by omega) d2 (one _ d2)
        exact ⟨a1, a2, by omega, by omega, a5, by rw [a6, rev_size]⟩
      · rw [if_neg q0]
        have d2 := Dn.succ O h (by omega) (O.asy _ _ hb)
        obtain ⟨a1, a2, a3, a4, a5, a6⟩ := dn_desc f p (m + 1) 0 (by omega) (by omega) d2 (one _ d2)
        exact ⟨a1, a2, by omega, by omega, a5, a6⟩
    · rw [if_neg hb]
      by_cases hc : bt (gt p (m - 1)) (gt p m) = true
      · rw [if_pos hc]
        exact ⟨h, hf, Nat.le_refl _, by show m ≤ m + (f + 1); omega, hq, rfl⟩
      · rw [if_neg hc]
        have hb' : bt (gt p m) (gt p (m - 1)) = false := by simpa using hb
        have hc' : bt (gt p (m - 1)) (gt p m) = false := by simpa using hc
        have d2 := Dn.succ O h (by omega) hc'
        obtain ⟨a1, a2, a3, a4, a5, a6⟩ := dn_desc f p (m + 1) (q + 1) (by omega) (by omega) d2 (fun i j h1 h2 h3 h4 => by
          by_cases ei : i = m
          · subst ei
            by_cases ej : j = i
            · subst ej; exact O.irr _
            · exact O.neg _ (gt p (i - 1)) _ (hf (i - 1) j (by omega) (by omega) (by omega) (by omega)) hb'
          · by_cases ej : j = m
            · subst ej
              exact O.neg _ (gt p (j - 1)) _ hc' (hf i (j - 1) (by omega) (by omega) (by omega) (by omega))
            · exact hf i j (by omega) (by omega) (by omega) (by omega))
        exact ⟨a1, a2, by omega, by omega, a5, a6⟩
theorem up_tail {p : Array Nat} {m k : Nat} (m0 : 0 < m) (hs : k ≤ p.size) (hm : m ≤ k) (h : Dn bt p m) : Up bt (kEval bt (kas_tail3 m k p)).2 (kEval bt (kas_tail3 m k p)).1 ∧ m ≤ (kEval bt (kas_tail3 m k p)).1 ∧ (kEval bt (kas_tail3 m k p)).1 ≤ k ∧ (kEval bt (kas_tail3 m k p)).2.size = p.size := by
  have u : Up bt (kas_rev p 0 m) m := fun i j hi hj => by
    rw [rev_at (by omega), rev_at (by omega), if_pos (by omega), if_pos (by omega)]
    exact h _ _ (by omega) (by omega)
  have e : kEval bt (kas_tail3 m k p) = (kEval bt (kas_asc (kas_rev p 0 m) (k - m) m), kas_rev p 0 m) := kEval_bind bt _ _
  rw [e]
  obtain ⟨a, b, c, _⟩ := up_asc O (k - m) m m0 u
  exact ⟨a, b, by show kEval bt (kas_asc (kas_rev p 0 m) (k - m) m) ≤ k; omega, rev_size _ _ _⟩
theorem up_part {p : Array Nat} {m k : Nat} (m0 : 0 < m) (hs : k ≤ p.size) (hm : m < k) (h : Dn bt p (m + 1)) : Up bt (kEval bt (kas_descPart m k p)).2 (kEval bt (kas_descPart m k p)).1 ∧ 0 < (kEval bt (kas_descPart m k p)).1 ∧ (kEval bt (kas_descPart m k p)).1 ≤ k ∧ (kEval bt (kas_descPart m k p)).2.size = p.size := by
  obtain ⟨a1, a2, a3, a4, a5, a6⟩ := dn_desc O (k - (m + 1)) p (m + 1) 0 (by omega) (by omega) h (fun i j h1 h2 h3 h4 => by
    have : i = j := by omega
    subst this
    exact O.irr _)
  have e : kEval bt (kas_descPart m k p) = kEval bt (if (kEval bt (kas_desc (k - (m + 1)) p (m + 1) 0)).2.2 > 0 then kas_tail3 (kEval bt (kas_desc (k - (m + 1)) p (m + 1) 0)).2.1 k (kas_rev (kEval bt (kas_desc (k - (m + 1)) p (m + 1) 0)).1 ((kEval bt (kas_desc (k - (m + 1)) p (m + 1) 0)).2.1 - ((kEval bt (kas_desc (k - (m + 1)) p (m + 1) 0)).2.2 + 1)) (kEval bt (kas_desc (k - (m + 1)) p (m + 1) 0)).2.1)
      else kas_tail3 (kEval bt (kas_desc (k - (m + 1)) p (m + 1) 0)).2.1 k (kEval bt (kas_desc (k - (m + 1)) p (m + 1) 0)).1) := kEval_bind bt _ _
  rw [e]
  generalize kEval bt (kas_desc (k - (m + 1)) p (m + 1) 0) = r at *
  obtain ⟨p1, n1, q1⟩ := r
  dsimp only at *
  split
  · obtain ⟨d1, _⟩ := Dn.rev O (by omega) a5 a1 a2
    obtain ⟨b1, b2, b3, b4⟩ := up_tail O (p := kas_rev p1 (n1 - (q1 + 1)) n1) (m := n1) (k := k) (by omega) (by rw [rev_size]; omega) (by omega) d1
    exact ⟨b1, by omega, b3, by rw [b4, rev_size, a6]⟩
  · obtain ⟨b1, b2, b3, b4⟩ := up_tail O (p := p1) (m := n1) (k := k) (by omega) (by omega) (by omega) a1
    exact ⟨b1, by omega, b3, by rw [b4, a6]⟩
theorem up_count {p : Array Nat} {k : Nat} (k0 : 0 < k) (hs : k ≤ p.size) : Up bt (kEval bt (kas_count k p)).2 (kEval bt (kas_count k p)).1 ∧ 0 < (kEval bt (kas_count k p)).1 ∧ (kEval bt (kas_count k p)).1 ≤ k ∧ (kEval bt (kas_count k p)).2.size = p.size := by
  obtain ⟨a1, a2, a3, a4⟩ := up_asc O (p := p) (k - 1) 1 (by omega) (fun i j h1 h2 => by omega)
  have e : kEval bt (kas_count k p) = kEval bt (if ((kEval bt (kas_asc p (k - 1) 1)) == k) = true then .ret ((kEval bt (kas_asc p (k - 1) 1)), p) else if (kEval bt (kas_asc p (k - 1) 1)) > 1 then .ask (gt p 0) (gt p ((kEval bt (kas_asc p (k - 1) 1)) - 1)) fun c => if c = true then .ret ((kEval bt (kas_asc p (k - 1) 1)), p) else kas_descPart (kEval bt (kas_asc p (k - 1) 1)) k (kas_rev p 0 (kEval bt (kas_asc p (k - 1) 1)))
      else kas_descPart (kEval bt (kas_asc p (k - 1) 1)) k p) := kEval_bind bt _ _
  rw [e]
  generalize kEval bt (kas_asc p (k - 1) 1) = m at *
  split
  · exact ⟨a1, by show 0 < m; omega, by show m ≤ k; omega, rfl⟩
  · rename_i hne
    have hlt : m < k := by
      have : m ≠ k := by simpa using hne
      omega
    have hb := a4 (by omega)
    split
    · rename_i m1
      show Up bt (kEval bt (if bt (gt p 0) (gt p (m - 1)) = true then KasT.ret (m, p) else kas_descPart m k (kas_rev p 0 m))).2 (kEval bt (if bt (gt p 0) (gt p (m - 1)) = true then KasT.ret (m, p) else kas_descPart m k (kas_rev p 0 m))).1 ∧ 0 < (kEval bt (if bt (gt p 0) (gt p (m - 1)) = true then KasT.ret (m, p) else kas_descPart m k (kas_rev p 0 m))).1 ∧ (kEval bt (if bt (gt p 0) (gt p (m - 1)) = true then KasT.ret (m, p) else kas_descPart m k (kas_rev p 0 m))).1 ≤ k ∧ (kEval bt (if bt (gt p 0) (gt p (m - 1)) = true then KasT.ret (m, p) else kas_descPart m k (kas_rev p 0 m))).2.size = p.size
      by_cases hc : bt (gt p 0) (gt p (m - 1)) = true
      · rw [if_pos hc]
        exact ⟨a1, by show 0 < m; omega, by show m ≤ k; omega, rfl⟩
      · rw [if_neg hc]
        have hc' : bt (gt p 0) (gt p (m - 1)) = false := by simpa using hc
        have fl : ∀ i j, i < m → j < m → bt (gt p i) (gt p j) = false := fun i j hi hj => by
          have hU : ∀ i j, i ≤ j → j < m → bt (gt p j) (gt p i) = false := fun i j h1 h2 => by
            by_cases e : i = j
            · subst e; exact O.irr _
            · exact a1 i j (by omega) h2
          have x1 := hU 0 i (by omega) hi
          by_cases h : i ≤ j
          · exact O.neg _ (gt p 0) _ (O.neg _ (gt p (m - 1)) _ (hU j (m - 1) (by omega) (by omega)) hc') x1
          · exact hU j i (by omega) hi
        have d : Dn bt (kas_rev p 0 m) (m + 1) := fun i j hi hj => by
          rw [rev_at (by omega), rev_at (by omega), if_pos (by omega)]
          by_cases ej : j < m
          · rw [if_pos (by omega)]
            exact fl _ _ (by omega) (by omega)
          · rw [if_neg (by omega)]
            obtain rfl : j = m := by omega
            exact O.neg _ (gt p (j - 1)) _ (O.asy _ _ hb) (fl _ _ (by omega) (by omega))
        obtain ⟨b1, b2, b3, b4⟩ := up_part O (p := kas_rev p 0 m) (m := m) (k := k) (by omega) (by rw [rev_size]; exact hs) hlt d
        exact ⟨b1, b2, b3, by rw [b4, rev_size]⟩
    · have e1 : m = 1 := by omega
      subst e1
      have d : Dn bt p (1 + 1) := fun i j hi hj => by
        obtain rfl : i = 0 := by omega
        obtain rfl : j = 1 := by omega
        exact O.asy _ _ hb
      exact up_part O (by omega) hs hlt d
theorem up_place {p : Array Nat} {k : Nat} (h : Up bt p k) : ∀ f l r, r ≤ l + f → l ≤ r → r ≤ k → (∀ i, i < l → bt (gt p k) (gt p i) = false) → (∀ i, r ≤ i → i < k → bt (gt p i) (gt p k) = false) →
    (∀ i, i < kEval bt (kas_place p k f l r) → bt (gt p k) (gt p i) = false) ∧ (∀ i, kEval bt (kas_place p k f l r) ≤ i → i < k → bt (gt p i) (gt p k) = false) ∧ kEval bt (kas_place p k f l r) ≤ k
  | 0, l, r, hf, hl, hr, h1, h2 => by
    obtain rfl : l = r := by omega
    exact ⟨h1, h2, hr⟩
  | f + 1, l, r, hf, hl, hr, h1, h2 => by
    by_cases hlr : l ≥ r
    · have e : kEval bt (kas_place p k (f + 1) l r) = l := by
        show kEval bt (if l ≥ r then _ else _) = _
        rw [if_pos hlr]
        rfl
      rw [e]
      obtain rfl : l = r := by omega
      exact ⟨h1, h2, hr⟩
    · have e : kEval bt (kas_place p k (f + 1) l r) = if bt (gt p k) (gt p ((l + r) / 2)) = true then kEval bt (kas_place p k f l ((l + r) / 2)) else kEval bt (kas_place p k f ((l + r) / 2 + 1) r) := by
        show kEval bt (if l ≥ r then _ else _) = _
        rw [if_neg hlr]
        show kEval bt (if bt (gt p k) (gt p ((l + r) / 2)) = true then _ else _) = _
        split <;> rfl
      rw [e]
      have hU : ∀ i j, i ≤ j → j < k → bt (gt p j) (gt p i) = false := fun i j h1 h2 => by
        by_cases e : i = j
        · subst e; exact O.irr _
        · exact h i j (by omega) h2
      by_cases hb : bt (gt p k) (gt p ((l + r) / 2)) = true
      · rw [if_pos hb]
        exact up_place h f l _ (by omega) (by omega) (by omega) h1 (fun i hi hk => O.neg _ (gt p ((l + r) / 2)) _ (O.asy _ _ hb) (hU _ _ hi hk))
      · rw [if_neg hb]
        have hb' : bt (gt p k) (gt p ((l + r) / 2)) = false := by simpa using hb
        exact up_place h f _ r (by omega) (by omega) hr (fun i hi => O.neg _ (gt p ((l + r) / 2)) _ (hU _ _ (by omega) (by omega)) hb') h2
theorem up_bin : ∀ (f : Nat) (p : Array Nat) (k : Nat), k + f ≤ p.size → Up bt p k → Up bt (kEval bt (kas_bin f p k)) (k + f)
  | 0, p, k, _, h => h
  | f + 1, p, k, hs, h => by
    have e : kEval bt (kas_bin (f + 1) p k) = kEval bt (kas_bin f (bubble p k (k - kEval bt (kas_place p k k 0 k))) (k + 1)) := kEval_bind bt _ _
    rw [e]
    obtain ⟨a, b, c⟩ := up_place O h k 0 k (by omega) (by omega) (Nat.le_refl _) (fun i hi => absurd hi (by omega)) (fun i h1 h2 => absurd h1 (by omega))
    generalize kEval bt (kas_place p k k 0 k) = l at *
    have u : Up bt (bubble p k (k - l)) (k + 1) := fun i j hi hj => by
      rw [bub_at (by omega) (by omega), bub_at (by omega) (by omega)]
      have el : k - (k - l) = l := by omega
      rw [el]
      repeat' split
      all_goals first
        | (exfalso; omega)
        | exact h _ _ (by omega) (by omega)
        | exact a _ (by omega)
        | exact b _ (by omega) (by omega)
    have := up_bin f _ (k + 1) (by rw [bubble_size]; omega) u
    rw [show k + (f + 1) = k + 1 + f by omega]
    exact this
theorem up_sort (n : Nat) : Up bt (kEval bt (kas_sort n)) n := by
  by_cases n0 : n = 0
  · subst n0
    exact fun i j _ h => absurd h (by omega)
  have e : kEval bt (kas_sort n) = kEval bt (if (kEval bt (kas_count n (Rg n))).1 < n then kas_bin (n - max (kEval bt (kas_count n (Rg n))).1 1) (kEval bt (kas_count n (Rg n))).2 (max (kEval bt (kas_count n (Rg n))).1 1) else .ret (kEval bt (kas_count n (Rg n))).2) := kEval_bind bt _ _
  rw [e]
  have sz : (Rg n).size = n := by simp
  obtain ⟨a, b, c, d⟩ := up_count O (p := Rg n) (k := n) (by omega) (by omega)
  generalize kEval bt (kas_count n (Rg n)) = r at *
  obtain ⟨m, p⟩ := r
  dsimp only at *
  split
  · rw [show max m 1 = m by omega]
    have := up_bin O (n - m) p m (by omega) a
    rw [show m + (n - m) = n by omega] at this
    exact this
  · rw [show n = m by omega]
    exact a
end
theorem sortIx_up {bt : Nat → Nat → Bool} (O : StrictO bt) (n : Nat) : (sortIx bt n).Pairwise fun i j => bt j i = false := by
  have u := up_sort O n
  have hp : (sortIx bt n).length = n := by
    have := (sortIx_perm bt n).length_eq
    simpa using this
  rw [List.pairwise_iff_getElem]
  intro i j hi hj hij
  have := u i j hij (by omega)
  unfold sortIx at hi hj ⊢
  simp only [gt, Array.getD_eq_getD_getElem?] at this
  rw [Array.length_toList] at hi hj
  rw [Array.getElem?_eq_getElem hi, Array.getElem?_eq_getElem hj] at this
  simpa using this
end L2
namespace L2
open PySem PySem.Spec PyProof.Rows
theorem lex_cons (x y : Int) (a b : List Int) : HT.lexLt (x :: a) (y :: b) = if x = y then HT.lexLt a b else decide (x < y) := by
  simp only [HT.lexLt]
theorem lex_asy : ∀ a b : List Int, HT.lexLt a b = true → HT.lexLt b a = false
  | [], [], h => by simp [HT.lexLt] at h
  | [], _ :: _, _ => by simp [HT.lexLt]
  | _ :: _, [], h => by simp [HT.lexLt] at h
  | x :: a, y :: b, h => by
    rw [lex_cons] at h ⊢
    by_cases e : x = y
    · subst e
      rw [if_pos rfl] at h ⊢
      exact lex_asy a b h
    · rw [if_neg e] at h
      rw [if_neg (fun z => e z.symm)]
      have : x < y := by simpa using h
      simp only [decide_eq_false_iff_not]
      omega
theorem lex_neg : ∀ a b c : List Int, HT.lexLt b a = false → HT.lexLt c b = false → HT.lexLt c a = false
  | [], b, c, h1, h2 => by cases c <;> simp [HT.lexLt]
  | x :: a, [], c, h1, h2 => by simp [HT.lexLt] at h1
  | x :: a, y :: b, [], h1, h2 => by simp [HT.lexLt] at h2
  | x :: a, y :: b, z :: c, h1, h2 => by
    rw [lex_cons] at h1 h2 ⊢
    by_cases e1 : y = x
    · subst e1
      rw [if_pos rfl] at h1
      by_cases e2 : z = y
      · subst e2
        rw [if_pos rfl] at h2 ⊢
        exact lex_neg a b c h1 h2
      · rw [if_neg e2] at h2 ⊢
        exact h2
    · rw [if_neg e1] at h1
      have q1 : ¬ y < x := by simpa using h1
      by_cases e2 : z = y
      · subst e2
        rw [if_neg e1]
        exact h1
      · rw [if_neg e2] at h2
        have q2 : ¬ z < y := by simpa using h2
        rw [if_neg (by omega)]
        simp only [decide_eq_false_iff_not]
        omega
theorem lex_eq : ∀ a b : List Int, HT.lexLt a b = false → HT.lexLt b a = false → a = b
  | [], [], _, _ => rfl
  | [], _ :: _, h, _ => by simp [HT.lexLt] at h
  | _ :: _, [], _, h => by simp [HT.lexLt] at h
  | x :: a, y :: b, h1, h2 => by
    rw [lex_cons] at h1 h2
    by_cases e : x = y
    · subst e
      rw [if_pos rfl] at h1 h2
      rw [lex_eq a b h1 h2]
    · rw [if_neg e] at h1
      rw [if_neg (fun z => e z.symm)] at h2
      have q1 : ¬ x < y := by simpa using h1
      have q2 : ¬ y < x := by simpa using h2
      omega
theorem lex_strict (nss : List (List Int)) : StrictO fun i j => HT.lexLt (nss.getD i []) (nss.getD j []) := ⟨fun _ _ => lex_asy _ _, fun _ _ _ => lex_neg _ _ _⟩
theorem sortR_up (nss : List (List Int)) : (sortR nss).Pairwise fun a b => HT.lexLt b a = false := by
  unfold sortR
  rw [List.pairwise_map]
  exact sortIx_up (lex_strict nss) nss.length
theorem ord_eq {a b : List (List Int)} (ha : a.Pairwise fun x y => HT.lexLt y x = false) (hb : b.Pairwise fun x y => HT.lexLt y x = false) (p : a.Perm b) : a = b :=
  p.eq_of_pairwise (fun x y _ _ h1 h2 => lex_eq x y h2 h1) ha hb
theorem sortR_eq {a b : List (List Int)} (p : a.Perm b) : sortR a = sortR b := ord_eq (sortR_up a) (sortR_up b) ((sortR_perm a).trans (p.trans (sortR_perm b).symm))
end L2

namespace L2
open PySem PySem.Spec PyProof.Rows PySem.SeqAt
section
variable {X : Cx} {e : Expr} {te : DTE} {pos : Pos}
def dClrO (j : Nat) : DTS := fun D ρ => ownAt ρ j fun _ => D.nx (ρ.set j (some (.own [])))
theorem ds_clr (j : Nat) {x : Str} {px ap cp : Pos} (hN : X.N[j]? = some x := by rfl) (hv : Vis X.env.scope x := by first | exact Or.inl rfl | exact Or.inr (Or.inl rfl) | exact Or.inr (Or.inr rfl)) (hd : (x == ("__debug__" : Str)) = false := by decide)
    (hcd : (x == ("__classdict__" : Str)) = false := by decide) (hbase : attributeBase (.Name x px) "clear" X.env (eval (.Name x px) X.env) = eval (.Name x px) X.env := by rfl)
    (hline : (ap.endLine == cp.line) = true := by rfl)
    (hs : swapsWith (.Call (.Attribute (.Name x px) "clear" ap) [] [] cp) none pos.line X.env = pure false := by rfl) : DS X (.Expr (.Call (.Attribute (.Name x px) "clear" ap) [] [] cp) pos) (dClrO j) where
  mono := fun hd h => h.mono fun ds h => hd.nx _ h
  ps := (ps_expr (pe_bm0 PySem.F.plainAttrs_list PySem.F.slot_list_clear PySem.F.type_list_clear mt_clear (pe_var hN hv hd hcd) hbase hline) hs).imp fun D σ H ⟨B, F, O, ρ, R, h⟩ => by
    obtain ⟨ds, e1, h⟩ := h.get
    obtain ⟨a, xs, h1, h2, h3, h4, h5⟩ := R.own j ds e1
    exact ⟨_, h1, .inl ⟨rfl, _, SqL.of h4⟩, a, xs, rfl, rfl, h4, h O σ _ (R.putOwn e1 h1 h2 h4 .nil)⟩
end
end L2
namespace L2
open PySem
theorem eqs_ints : ∀ a b : List Int, Dt.eqs (a.map Dt.int) (b.map Dt.int) = decide (a = b)
  | [], [] => by simp [Dt.eqs]
  | [], _ :: _ => by simp [Dt.eqs]
  | _ :: _, [] => by simp [Dt.eqs]
  | x :: a, y :: b => by
    rw [List.map_cons, List.map_cons, Dt.eqs, eqs_ints a b, Dt.eq]
    by_cases e : x = y
    · by_cases e2 : a = b <;> simp [e, e2]
    · simp [e]
theorem eqs_rows : ∀ a b : List (List Int), Dt.eqs (a.map rowD') (b.map rowD') = decide (a = b)
  | [], [] => by simp [Dt.eqs]
  | [], _ :: _ => by simp [Dt.eqs]
  | _ :: _, [] => by simp [Dt.eqs]
  | x :: a, y :: b => by
    rw [List.map_cons, List.map_cons, Dt.eqs, eqs_rows a b, Dt.eq, eqs_ints]
    by_cases e : x = y
    · by_cases e2 : a = b <;> simp [e, e2]
    · simp [e]
theorem flats_ints (n : Nat) : ∀ a : List Int, Dt.flats n (a.map Dt.int) = true
  | [] => by simp [Dt.flats]
  | x :: a => by rw [List.map_cons, Dt.flats, flats_ints n a, flat_i]; rfl
theorem flats_rows (n : Nat) : ∀ a : List (List Int), Dt.flats (n + 1) (a.map rowD') = true
  | [] => by simp [Dt.flats]
  | x :: a => by rw [List.map_cons, Dt.flats, flats_rows n a, Dt.flat, flats_ints]; rfl
theorem noLs_ints (n : Nat) : ∀ a : List Int, Dt.noLs n (a.map Dt.int) = true
  | [] => noLs_n
  | x :: a => by rw [List.map_cons, noLs_c, noLs_ints n a, noL_i]; rfl
theorem noLs_rows (n : Nat) : ∀ a : List (List Int), Dt.noLs (n + 1) (a.map rowD') = true
  | [] => noLs_n
  | x :: a => by rw [List.map_cons, noLs_c, noLs_rows n a, noL_t, noLs_ints]; rfl
end L2

namespace My
open PySem L2
abbrev sp_law : DSp := spLaw
abbrev I4 := Int × Int × Int × Int
abbrev I2 := Int × Int
abbrev t4 (p : I4) : Dt := T4 p.1 p.2.1 p.2.2.1 p.2.2.2
abbrev t2 (p : I2) : Dt := T2 p.1 p.2
def B4 (n : Nat) (p : I4) : Prop := Bt n p.1 ∧ Bt n p.2.1 ∧ Bt n p.2.2.1 ∧ Bt n p.2.2.2
def B2 (n : Nat) (p : I2) : Prop := Bt n p.1 ∧ Bt n p.2
def det (p : I4) : Int := p.1 * p.2.2.2 - p.2.1 * p.2.2.1
def ledV (t : I4) (p : I2) : I2 := (t.1 * p.1 + t.2.1 * p.2, t.2.2.1 * p.1 + t.2.2.2 * p.2)
def thenV (a b : I4) : I4 := (a.1 * b.1 + a.2.1 * b.2.2.1, a.1 * b.2.1 + a.2.1 * b.2.2.2, a.2.2.1 * b.1 + a.2.2.2 * b.2.2.1, a.2.2.1 * b.2.1 + a.2.2.2 * b.2.2.2)
def backV (t : I4) : I4 := (t.2.2.2, -t.2.1, -t.2.2.1, t.1)
theorem B4.le {n m : Nat} {t : I4} (h : B4 n t) (l : n ≤ m) : B4 m t := ⟨h.1.le l, h.2.1.le l, h.2.2.1.le l, h.2.2.2.le l⟩
theorem B2.le {n m : Nat} {t : I2} (h : B2 n t) (l : n ≤ m) : B2 m t := ⟨h.1.le l, h.2.le l⟩
theorem B4.back {n : Nat} {t : I4} (h : B4 n t) : B4 n (backV t) := ⟨h.2.2.2, h.2.1.neg, h.2.2.1.neg, h.1⟩
theorem B4.then {n m : Nat} {t u : I4} (h : B4 n t) (q : B4 m u) : B4 (n + m + 1) (thenV t u) :=
  ⟨((h.1.mul q.1).add (h.2.1.mul q.2.2.1)).le (by omega), ((h.1.mul q.2.1).add (h.2.1.mul q.2.2.2)).le (by omega), ((h.2.2.1.mul q.1).add (h.2.2.2.mul q.2.2.1)).le (by omega), ((h.2.2.1.mul q.2.1).add (h.2.2.2.mul q.2.2.2)).le (by omega)⟩
theorem det_back {t : I4} : det (backV t) = det t := by obtain ⟨a, b, c, d⟩ := t; simp only [det, backV]; grind
theorem det_then {t u : I4} : det (thenV t u) = det t * det u := by obtain ⟨a, b, c, d⟩ := t; obtain ⟨e, f, g, h⟩ := u; simp only [det, thenV]; grind
theorem then_back {t : I4} (h : det t = 1) : thenV t (backV t) = (1, 0, 0, 1) := by
  obtain ⟨a, b, c, d⟩ := t
  simp only [det, thenV, backV, Prod.mk.injEq] at *
  refine ⟨?_, ?_, ?_, ?_⟩ <;> grind
theorem back_then {t : I4} (h : det t = 1) : thenV (backV t) t = (1, 0, 0, 1) := by
  obtain ⟨a, b, c, d⟩ := t
  simp only [det, thenV, backV, Prod.mk.injEq] at *
  refine ⟨?_, ?_, ?_, ?_⟩ <;> grind
theorem eq_t4 {s t : I4} : Dt.eq (t4 s) (t4 t) = decide (s = t) := by
  obtain ⟨a, b, c, d⟩ := s
  obtain ⟨e, f, g, h⟩ := t
  simp only [eq_tt, eqs_cc, eqs_nn, eq_ii, Prod.mk.injEq, Bool.and_true]
  simp only [Bool.decide_and]
abbrev I3 := Int × Int × Int
abbrev t3 (p : I3) : Dt := T3 p.1 p.2.1 p.2.2
def B3 (n : Nat) (p : I3) : Prop := Bt n p.1 ∧ Bt n p.2.1 ∧ Bt n p.2.2
theorem B3.le {n m : Nat} {t : I3} (h : B3 n t) (l : n ≤ m) : B3 m t := ⟨h.1.le l, h.2.1.le l, h.2.2.le l⟩
def meas (f : I3) : Int := f.2.1 * f.2.1 - 4 * f.1 * f.2.2
def val (f : I3) (p : I2) : Int := f.1 * p.1 * p.1 + f.2.1 * p.1 * p.2 + f.2.2 * p.2 * p.2
def mid (f : I3) (l r : I2) : Int := 2 * f.1 * l.1 * r.1 + f.2.1 * (l.1 * r.2 + r.1 * l.2) + 2 * f.2.2 * l.2 * r.2
def mov (f : I3) (t : I4) : I3 := (val f (t.1, t.2.2.1), mid f (t.1, t.2.2.1) (t.2.1, t.2.2.2), val f (t.2.1, t.2.2.2))
theorem meas_mov {f : I3} {t : I4} (h : det t = 1) : meas (mov f t) = meas f := by
  obtain ⟨a, b, c⟩ := f; obtain ⟨e, g, i, j⟩ := t
  simp only [det] at h
  have e1 : meas (mov (a, b, c) (e, g, i, j)) = (e * j - g * i) * (e * j - g * i) * meas (a, b, c) := by simp only [meas, mov, val, mid]; grind
  rw [e1, h]; simp
theorem mov_then {f : I3} {t u : I4} : mov (mov f t) u = mov f (thenV t u) := by
  obtain ⟨a, b, c⟩ := f; obtain ⟨e, g, i, j⟩ := t; obtain ⟨k, l, m, n⟩ := u
  simp only [mov, val, mid, thenV, Prod.mk.injEq]
  refine ⟨?_, ?_, ?_⟩ <;> grind
theorem mov_same {f : I3} : mov f (1, 0, 0, 1) = f := by
  obtain ⟨a, b, c⟩ := f
  simp only [mov, val, mid, Prod.mk.injEq]
  refine ⟨?_, ?_, ?_⟩ <;> grind
theorem B3.mov {f : I3} {t : I4} {n m : Nat} (hf : B3 n f) (ht : B4 m t) : B3 (n + m + m + 5) (mov f t) := by
  obtain ⟨a, b, c⟩ := f; obtain ⟨e, g, i, j⟩ := t
  obtain ⟨ha, hb, hc⟩ := hf
  obtain ⟨he, hg, hi, hj⟩ := ht
  have h2 : Bt 2 2 := Bt.of_abs (by decide)
  refine ⟨?_, ?_, ?_⟩
  · exact ((((ha.mul he).mul he).add ((hb.mul he).mul hi)).add ((hc.mul hi).mul hi)).le (by omega)
  · exact (((((h2.mul ha).mul he).mul hg).add (hb.mul ((he.mul hj).add (hg.mul hi)))).add (((h2.mul hc).mul hi).mul hj)).le (by omega)
  · exact ((((ha.mul hg).mul hg).add ((hb.mul hg).mul hj)).add ((hc.mul hj).mul hj)).le (by omega)
def Sq (n r : Int) : Prop := 0 ≤ r ∧ r * r ≤ n ∧ n < (r + 1) * (r + 1)
theorem Sq.uniq {n r s : Int} (a : Sq n r) (b : Sq n s) : r = s := by
  obtain ⟨a0, a1, a2⟩ := a
  obtain ⟨b0, b1, b2⟩ := b
  rcases Int.lt_trichotomy r s with h | h | h
  · have := Int.mul_le_mul (show r + 1 ≤ s by omega) (show r + 1 ≤ s by omega) (by omega) b0
    omega
  · exact h
  · have := Int.mul_le_mul (show s + 1 ≤ r by omega) (show s + 1 ≤ r by omega) (by omega) a0
    omega
theorem newton_up {n g : Int} (hn : 0 ≤ n) (hg : 0 < g) : n < ((g + n / g) / 2 + 1) * ((g + n / g) / 2 + 1) := by
  have h1 : n < g * (n / g) + g := Int.lt_mul_ediv_self_add hg
  have h0 : 0 ≤ n / g := Int.ediv_nonneg hn (by omega)
  generalize n / g = q at *
  have hb : g + q ≤ 2 * ((g + q) / 2) + 1 := by omega
  have hb0 : 0 ≤ (g + q) / 2 := by omega
  generalize (g + q) / 2 = b at *
  have z1 : 0 ≤ (g - q - 1) * (g - q - 1) := by
    rcases Int.le_total 0 (g - q - 1) with h | h
    · exact Int.mul_nonneg h h
    · exact Int.mul_nonneg_of_nonpos_of_nonpos h h
  have z2 : (g + q + 1) * (g + q + 1) = (g - q - 1) * (g - q - 1) + 4 * (g * q + g) := by grind
  have z3 : (g + q + 1) * (g + q + 1) ≤ (2 * (b + 1)) * (2 * (b + 1)) := Int.mul_le_mul (by omega) (by omega) (by omega) (by omega)
  have z4 : (2 * (b + 1)) * (2 * (b + 1)) = 4 * ((b + 1) * (b + 1)) := by grind
  omega
theorem newton_end {n g : Int} (hg : 0 < g) (h : g ≤ (g + n / g) / 2) : g * g ≤ n := by
  have h1 : g * (n / g) ≤ n := Int.mul_ediv_self_le (by omega)
  have h2 : g ≤ n / g := by omega
  have := Int.mul_le_mul_of_nonneg_left h2 (show 0 ≤ g by omega)
  omega
theorem newton_pos {n g : Int} (hn : 1 ≤ n) (hg : 0 < g) : 0 < (g + n / g) / 2 := by
  have h0 : 0 ≤ n / g := Int.ediv_nonneg (by omega) (by omega)
  rcases Int.lt_or_le g 2 with h | h
  · have : g = 1 := by omega
    subst this
    rw [Int.ediv_one]; omega
  · omega
theorem start_up {n : Int} (hn : 0 ≤ n) : n < (1 * 2 ^ ((((Builtin.Int.intBits n : Nat) : Int) + 1).fdiv 2).toNat + 1) * (1 * 2 ^ ((((Builtin.Int.intBits n : Nat) : Int) + 1).fdiv 2).toNat + 1) := by
  have h1 : n.natAbs < 2 ^ Builtin.Int.intBits n := intBits_le_iff.mp (Nat.le_refl _)
  generalize Builtin.Int.intBits n = b at *
  have e : ((((b : Nat) : Int) + 1).fdiv 2).toNat = (b + 1) / 2 := by
    rw [Int.fdiv_eq_ediv_of_nonneg _ (by decide)]; omega
  rw [e]
  generalize hk : (b + 1) / 2 = k
  have h2 : 2 ^ b ≤ 2 ^ k * 2 ^ k := by rw [← Nat.pow_add]; exact Nat.pow_le_pow_right (by decide) (by omega)
  have h3 : n < ((2 ^ k * 2 ^ k : Nat) : Int) := by omega
  have h4 : ((2 ^ k * 2 ^ k : Nat) : Int) = (2 ^ k : Int) * 2 ^ k := by push_cast; rfl
  rw [h4] at h3
  have h5 : (0 : Int) ≤ 2 ^ k := Int.pow_nonneg (by decide)
  generalize (2 ^ k : Int) = z at *
  have : (1 * z + 1) * (1 * z + 1) = z * z + 2 * z + 1 := by grind
  omega
theorem start_small {n : Int} (h : Bt 4000 n) : CPow 1 ((((Builtin.Int.intBits n : Nat) : Int) + 1).fdiv 2) ∧ Bt 2001 (1 * 2 ^ ((((Builtin.Int.intBits n : Nat) : Int) + 1).fdiv 2).toNat) ∧ 0 < (1 * 2 ^ ((((Builtin.Int.intBits n : Nat) : Int) + 1).fdiv 2).toNat : Int) := by
  have hb : Builtin.Int.intBits n ≤ 4000 := intBits_le_iff.mpr h
  generalize Builtin.Int.intBits n = b at *
  rw [Int.fdiv_eq_ediv_of_nonneg _ (by decide)]
  refine ⟨⟨by omega, by omega, by decide⟩, ?_, ?_⟩
  · have e : (((b : Int) + 1) / 2).toNat ≤ 2000 := by omega
    generalize (((b : Int) + 1) / 2).toNat = k at *
    unfold Bt
    rw [Int.one_mul, Int.natAbs_pow]
    exact Nat.pow_lt_pow_right (by decide) (by omega)
  · rw [Int.one_mul]
    exact Int.pow_pos (by decide)
theorem near_eq {n g : Int} (hg : 0 < g) : (g + n.fdiv g).fdiv 2 = (g + n / g) / 2 := by
  rw [Int.fdiv_eq_ediv_of_nonneg _ (by decide), Int.fdiv_eq_ediv_of_nonneg _ (by omega)]
def isSq (n : Int) : Prop := ∃ r : Int, r * r = n
theorem isSq_iff {n r : Int} (h : Sq n r) : isSq n ↔ r * r = n := by
  refine ⟨fun ⟨s, e⟩ => ?_, fun e => ⟨r, e⟩⟩
  have hs : Sq n (s.natAbs : Int) := by
    have e2 : (s.natAbs : Int) * (s.natAbs : Int) = n := (Int.natAbs_mul_self' s).trans e
    refine ⟨by omega, by omega, ?_⟩
    have : ((s.natAbs : Int) + 1) * ((s.natAbs : Int) + 1) = (s.natAbs : Int) * (s.natAbs : Int) + 2 * (s.natAbs : Int) + 1 := by grind
    omega
  rw [h.uniq hs]
  exact (Int.natAbs_mul_self' s).trans e
theorem isSq_neg {n : Int} (h : n < 0) : ¬ isSq n := fun ⟨r, e⟩ => by
  have : 0 ≤ r * r := by
    rcases Int.le_total 0 r with h | h
    · exact Int.mul_nonneg h h
    · exact Int.mul_nonneg_of_nonpos_of_nonpos h h
  omega
abbrev sp_root : DSp := spec (fun n : Int => [.int n]) (fun n => 0 ≤ n ∧ Bt 4000 n) fun n d => ∃ r, d = .int r ∧ Sq n r ∧ Bt 2001 r
abbrev sp_is_square : DSp := spec (fun n : Int => [.int n]) (fun n => Bt 4000 n) fun n d => ∃ b : Bool, d = .bl b ∧ (b = true ↔ isSq n)
def g3 (f : I3) : Nat := Int.gcd ((Int.gcd f.1 f.2.1 : Nat) : Int) f.2.2
inductive Word (f : I3) : Dt → Prop
  | flat : isSq (meas f) → Word f (.str "flat")
  | saddle : ¬ isSq (meas f) → 0 < meas f → Word f (.str "saddle")
  | bowl : ¬ isSq (meas f) → ¬ 0 < meas f → 0 < f.1 → Word f (.str "bowl")
  | dome : ¬ isSq (meas f) → ¬ 0 < meas f → ¬ 0 < f.1 → Word f (.str "dome")
def Pt (x y : Int) : Prop := ¬ (x = 0 ∧ y = 0)
structure Least (f : I3) : Prop where
  pos : 0 < f.1
  lo : -f.1 ≤ f.2.1
  hi : f.2.1 ≤ f.1
  ac : f.1 ≤ f.2.2
  edge : f.2.1 = -f.1 ∨ f.1 = f.2.2 → 0 ≤ f.2.1
theorem sq_pos {x : Int} (h : x ≠ 0) : 1 ≤ x * x := by
  rcases Int.lt_or_lt_of_ne h with h | h
  · have := Int.mul_le_mul_of_nonneg_left (show 1 ≤ -x by omega) (show 0 ≤ -x by omega)
    have e : (-x) * (-x) = x * x := by grind
    omega
  · have := Int.mul_le_mul_of_nonneg_left (show 1 ≤ x by omega) (show 0 ≤ x by omega)
    omega
theorem val_off {a b c x y : Int} (ha : 0 < a) (h1 : -a ≤ b) (h2 : b ≤ a) (hc : a ≤ c) (hx : x ≠ 0) (hy : y ≠ 0) : c ≤ val (a, b, c) (x, y) := by
  have key : ∀ X Y B : Int, 1 ≤ X → 1 ≤ Y → 0 ≤ B → B ≤ a → a + c - B ≤ a * (X * X) - B * (X * Y) + c * (Y * Y) := fun X Y B hX hY hB0 hB => by
    have sX : 1 ≤ X * X := sq_pos (by omega)
    have sY : 1 ≤ Y * Y := sq_pos (by omega)
    rcases Int.le_total Y X with h | h
    · have z1 : X * Y ≤ X * X := Int.mul_le_mul_of_nonneg_left h (by omega)
      have z2 : B * (X * Y) ≤ B * (X * X) := Int.mul_le_mul_of_nonneg_left z1 hB0
      have z3 : (a - B) * 1 ≤ (a - B) * (X * X) := Int.mul_le_mul_of_nonneg_left sX (by omega)
      have z4 : c * 1 ≤ c * (Y * Y) := Int.mul_le_mul_of_nonneg_left sY (by omega)
      have z5 : (a - B) * (X * X) = a * (X * X) - B * (X * X) := by grind
      omega
    · have z1 : X * Y ≤ Y * Y := Int.mul_le_mul_of_nonneg_right h (by omega)
      have z2 : B * (X * Y) ≤ B * (Y * Y) := Int.mul_le_mul_of_nonneg_left z1 hB0
      have z3 : (c - B) * 1 ≤ (c - B) * (Y * Y) := Int.mul_le_mul_of_nonneg_left sY (by omega)
      have z4 : a * 1 ≤ a * (X * X) := Int.mul_le_mul_of_nonneg_left sX (by omega)
      have z5 : (c - B) * (Y * Y) = c * (Y * Y) - B * (Y * Y) := by grind
      omega
  have hX : 1 ≤ (x.natAbs : Int) := by omega
  have hY : 1 ≤ (y.natAbs : Int) := by omega
  have k := key x.natAbs y.natAbs b.natAbs hX hY (by omega) (by omega)
  have e1 : (x.natAbs : Int) * x.natAbs = x * x := Int.natAbs_mul_self' x
  have e2 : (y.natAbs : Int) * y.natAbs = y * y := Int.natAbs_mul_self' y
  have e3 : -((b.natAbs : Int) * ((x.natAbs : Int) * y.natAbs)) ≤ b * (x * y) := by
    have : ((b.natAbs : Int) * ((x.natAbs : Int) * y.natAbs)) = ((b * (x * y)).natAbs : Int) := by rw [Int.natAbs_mul, Int.natAbs_mul]; push_cast; rfl
    rw [this]; omega
  rw [e1, e2] at k
  have e4 : val (a, b, c) (x, y) = a * (x * x) + b * (x * y) + c * (y * y) := by simp only [val]; grind
  rw [e4]
  omega
theorem val_ax {a b c x : Int} : val (a, b, c) (x, 0) = a * (x * x) := by simp only [val]; grind
theorem val_ay {a b c y : Int} : val (a, b, c) (0, y) = c * (y * y) := by simp only [val]; grind
theorem Least.min {f : I3} (L : Least f) {x y : Int} (h : Pt x y) : f.1 ≤ val f (x, y) := by
  obtain ⟨a, b, c⟩ := f
  obtain ⟨h0, h1, h2, h3, _⟩ := L
  simp only at h0 h1 h2 h3 ⊢
  by_cases hy : y = 0
  · subst hy
    have hx : x ≠ 0 := fun z => h ⟨z, rfl⟩
    rw [val_ax]
    have := Int.mul_le_mul_of_nonneg_left (sq_pos hx) (show 0 ≤ a by omega)
    omega
  · by_cases hx : x = 0
    · subst hx
      rw [val_ay]
      have := Int.mul_le_mul_of_nonneg_left (sq_pos hy) (show 0 ≤ c by omega)
      omega
    · have := val_off h0 h1 h2 h3 hx hy
      omega
theorem Least.low {f : I3} (L : Least f) {x y : Int} (h : val f (x, y) < f.2.2) : y = 0 := by
  obtain ⟨a, b, c⟩ := f
  obtain ⟨h0, h1, h2, h3, _⟩ := L
  simp only at h0 h1 h2 h3 h ⊢
  by_cases hy : y = 0
  · exact hy
  · exfalso
    by_cases hx : x = 0
    · subst hx
      rw [val_ay] at h
      have := Int.mul_le_mul_of_nonneg_left (sq_pos hy) (show 0 ≤ c by omega)
      omega
    · have := val_off h0 h1 h2 h3 hx hy
      omega
theorem pt_col {t : I4} (h : det t = 1) : Pt t.1 t.2.2.1 := fun ⟨h1, h2⟩ => by
  obtain ⟨p, q, r, s⟩ := t
  simp only [det] at h h1 h2
  rw [h1, h2] at h
  simp at h
theorem mov_back {f : I3} {t : I4} (h : det t = 1) : mov (mov f t) (backV t) = f := by rw [mov_then, then_back h, mov_same]
theorem one_of_sq {x : Int} (h : x * x = 1) : x = 1 ∨ x = -1 := by
  rcases Int.lt_or_le x 0 with z | z
  · have : (-x) * (-x) = 1 := by grind
    rcases Int.lt_or_le (-x) 2 with w | w
    · exact .inr (by omega)
    · have := Int.mul_le_mul w w (by decide) (by omega)
      omega
  · rcases Int.lt_or_le x 2 with w | w
    · rcases Int.lt_or_le x 1 with v | v
      · have : x = 0 := by omega
        rw [this] at h; simp at h
      · exact .inl (by omega)
    · have := Int.mul_le_mul w w (by decide) z
      omega
theorem Least.fix {f : I3} {t : I4} (L : Least f) (M : Least (mov f t)) (h : det t = 1) (ha : (mov f t).1 = f.1) (hc : f.1 < f.2.2) : t = (1, 0, 0, 1) ∨ t = (-1, 0, 0, -1) := by
  obtain ⟨a, b, c⟩ := f
  obtain ⟨p, q, r, s⟩ := t
  have e1 : (mov (a, b, c) (p, q, r, s)).1 = val (a, b, c) (p, r) := rfl
  have hr : r = 0 := L.low (x := p) (by rw [← e1, ha]; exact hc)
  subst hr
  rw [e1, val_ax] at ha
  have h0 : 0 < a := L.pos
  simp only at ha
  have hpp : p * p = 1 := by
    have : a * (p * p) = a * 1 := by rw [ha]; omega
    exact Int.eq_of_mul_eq_mul_left (by omega) this
  have hps : p * s = 1 := by simp only [det] at h; omega
  have hb : (mov (a, b, c) (p, q, 0, s)).2.1 = 2 * (a * (p * q)) + b := by
    show 2 * a * p * q + b * (p * s + q * 0) + 2 * c * 0 * s = _
    rw [hps]; grind
  have m1 : -a ≤ 2 * (a * (p * q)) + b := by
    have := M.lo
    rw [hb, e1, val_ax, hpp] at this
    omega
  have m2 : 2 * (a * (p * q)) + b ≤ a := by
    have := M.hi
    rw [hb, e1, val_ax, hpp] at this
    omega
  have m3 : 2 * (a * (p * q)) + b = -a → 0 ≤ 2 * (a * (p * q)) + b := fun z => by
    have := M.edge (.inl (by rw [hb, e1, val_ax, hpp]; omega))
    rw [hb] at this
    exact this
  have l1 : -a ≤ b := L.lo
  have l2 : b ≤ a := L.hi
  have l3 : b = -a → 0 ≤ b := fun z => L.edge (.inl z)
  have hq : p * q = 0 := by
    generalize p * q = k at *
    rcases Int.lt_trichotomy k 0 with z | z | z
    · have := Int.mul_le_mul_of_nonneg_left (show k ≤ -1 by omega) (show 0 ≤ a by omega)
      omega
    · exact z
    · have := Int.mul_le_mul_of_nonneg_left (show 1 ≤ k by omega) (show 0 ≤ a by omega)
      omega
  rcases one_of_sq hpp with rfl | rfl
  · have h1 : q = 0 := by omega
    have h2 : s = 1 := by omega
    rw [h1, h2]; exact .inl rfl
  · have h1 : q = 0 := by omega
    have h2 : s = -1 := by omega
    rw [h1, h2]; exact .inr rfl
theorem Least.one {f : I3} {t : I4} (L : Least f) (M : Least (mov f t)) (h : det t = 1) : mov f t = f := by
  have d1 : f.1 ≤ (mov f t).1 := by
    have e1 : (mov f t).1 = val f (t.1, t.2.2.1) := rfl
    rw [e1]; exact L.min (pt_col h)
  have hk : det (backV t) = 1 := det_back.trans h
  have d2 : (mov f t).1 ≤ f.1 := by
    have := M.min (pt_col hk)
    have e1 : (mov (mov f t) (backV t)).1 = val (mov f t) ((backV t).1, (backV t).2.2.1) := rfl
    rw [← e1, mov_back h] at this
    exact this
  have ha : (mov f t).1 = f.1 := by omega
  have hm := meas_mov (f := f) h
  by_cases hc : f.1 < f.2.2
  · rcases L.fix M h ha hc with e | e
    · rw [e, mov_same]
    · rw [e]
      obtain ⟨a, b, c⟩ := f
      simp only [mov, val, mid, Prod.mk.injEq]
      refine ⟨?_, ?_, ?_⟩ <;> grind
  · by_cases hc' : (mov f t).1 < (mov f t).2.2
    · exfalso
      have L' : Least (mov (mov f t) (backV t)) := by rw [mov_back h]; exact L
      have ha' : (mov (mov f t) (backV t)).1 = (mov f t).1 := by rw [mov_back h]; exact ha.symm
      rcases M.fix L' hk ha' hc' with e | e
      · have : f = mov f t := by
          have z := mov_back (f := f) h
          rw [e, mov_same] at z
          exact z.symm
        rw [← this] at hc'
        exact hc hc'
      · have : f = mov f t := by
          have z := mov_back (f := f) h
          rw [e] at z
          have z2 : mov (mov f t) (-1, 0, 0, -1) = mov f t := by
            obtain ⟨a, b, c⟩ := mov f t
            simp only [mov, val, mid, Prod.mk.injEq]
            refine ⟨?_, ?_, ?_⟩ <;> grind
          rw [z2] at z
          exact z.symm
        rw [← this] at hc'
        exact hc hc'
    · have l3 := L.ac
      have m3 := M.ac
      have l5 := L.edge (.inr (by omega))
      have m5 := M.edge (.inr (by omega))
      have l0 := L.pos
      have e2 : f.2.2 = f.1 := by omega
      have e3 : (mov f t).2.2 = f.1 := by omega
      generalize mov f t = g at *
      obtain ⟨a, b, c⟩ := f
      obtain ⟨a', b', c'⟩ := g
      simp only at *
      subst ha e2 e3
      simp only [meas] at hm
      have hbb : b' * b' = b * b := by omega
      have : b' = b := by
        rcases Int.lt_trichotomy b' b with z | z | z
        · have z1 : b' * b' ≤ b' * b := Int.mul_le_mul_of_nonneg_left (by omega) m5
          have z2 : b' * b < b * b := Int.mul_lt_mul_of_pos_right z (by omega)
          omega
        · exact z
        · have z1 : b * b ≤ b * b' := Int.mul_le_mul_of_nonneg_left (by omega) l5
          have z2 : b * b' < b' * b' := Int.mul_lt_mul_of_pos_right z (by omega)
          omega
      rw [this]
theorem cut_ints (ns : List Int) (lo hi : Option Int) : ∃ cs : List Int, cutD (ns.map Dt.int) lo hi = cs.map Dt.int ∧ cs.length ≤ ns.length := by
  refine ⟨(ns.drop (HT.sIx (ns.map Dt.int).length 0 lo)).take (HT.sIx (ns.map Dt.int).length (ns.map Dt.int).length hi - HT.sIx (ns.map Dt.int).length 0 lo), by unfold cutD; rw [List.map_take, List.map_drop], ?_⟩
  rw [List.length_take, List.length_drop]; omega
theorem fm_range (x : Int) {m : Int} (h : 0 < m) : 0 ≤ x.fmod m ∧ x.fmod m < m := ⟨Int.fmod_nonneg_of_pos x h, Int.fmod_lt_of_pos x h⟩
theorem fm_bt {n : Nat} (x : Int) {m : Int} (h : 0 < m) (hm : m ≤ 2 ^ n) : Bt n (x.fmod m) := by
  have ⟨h0, h1⟩ := fm_range x h
  exact Bt.of (by omega) (by omega)
theorem sq_nonneg (x : Int) : 0 ≤ x * x := by
  rcases Int.le_total 0 x with h | h
  · exact Int.mul_nonneg h h
  · exact Int.mul_nonneg_of_nonpos_of_nonpos h h
end My

namespace My
open PySem L2
def Bowl (f : I3) : Prop := 0 < f.1 ∧ meas f < 0
def stands (f : I3) : Bool := decide (-f.1 ≤ f.2.1 ∧ f.2.1 ≤ f.1 ∧ f.1 ≤ f.2.2) && (decide (0 ≤ f.2.1) || (decide (f.2.1 ≠ -f.1) && decide (f.1 ≠ f.2.2)))
theorem stands_least {f : I3} (h : 0 < f.1) (s : stands f = true) : Least f := by
  simp only [stands, Bool.and_eq_true, Bool.or_eq_true, decide_eq_true_eq] at s
  obtain ⟨⟨h1, h2, h3⟩, h4⟩ := s
  exact ⟨h, h1, h2, h3, fun z => by rcases h4 with h4 | ⟨h4, h5⟩; exact h4; rcases z with z | z; exact absurd z h4; exact absurd z h5⟩
theorem Least.stands {f : I3} (L : Least f) : stands f = true := by
  simp only [My.stands, Bool.and_eq_true, Bool.or_eq_true, decide_eq_true_eq]
  refine ⟨⟨L.lo, L.hi, L.ac⟩, ?_⟩
  by_cases h : 0 ≤ f.2.1
  · exact .inl h
  · exact .inr ⟨fun z => h (L.edge (.inl z)), fun z => h (L.edge (.inr z))⟩
theorem Least.bowl {f : I3} (L : Least f) : Bowl f := by
  obtain ⟨a, b, c⟩ := f
  refine ⟨L.pos, ?_⟩
  have h0 : 0 < a := L.pos
  have h1 : -a ≤ b := L.lo
  have h2 : b ≤ a := L.hi
  have h3 : a ≤ c := L.ac
  have h4 : b * b ≤ a * a := by
    have e1 : (b.natAbs : Int) * b.natAbs = b * b := Int.natAbs_mul_self' b
    have := Int.mul_le_mul (show (b.natAbs : Int) ≤ a by omega) (show (b.natAbs : Int) ≤ a by omega) (by omega) (by omega)
    omega
  have h5 : a * a ≤ a * c := Int.mul_le_mul_of_nonneg_left h3 (by omega)
  have h6 : 1 ≤ a * a := sq_pos (by omega)
  show b * b - 4 * a * c < 0
  have e : 4 * a * c = 4 * (a * c) := by grind
  omega
theorem Least.bt {f : I3} {n : Nat} (L : Least f) (h : Bt n (meas f)) : B3 n f := by
  obtain ⟨a, b, c⟩ := f
  have h0 : 0 < a := L.pos
  have h1 : -a ≤ b := L.lo
  have h2 : b ≤ a := L.hi
  have h3 : a ≤ c := L.ac
  have h4 : b * b ≤ a * a := by
    have e1 : (b.natAbs : Int) * b.natAbs = b * b := Int.natAbs_mul_self' b
    have := Int.mul_le_mul (show (b.natAbs : Int) ≤ a by omega) (show (b.natAbs : Int) ≤ a by omega) (by omega) (by omega)
    omega
  have h5 : a * a ≤ a * c := Int.mul_le_mul_of_nonneg_left h3 (by omega)
  have h6 : 1 * c ≤ a * c := Int.mul_le_mul_of_nonneg_right (by omega) (by omega)
  have hm : meas (a, b, c) = b * b - 4 * (a * c) := by simp only [meas]; grind
  have hc : Bt n c := by unfold Bt at *; rw [hm] at h; omega
  refine ⟨?_, ?_, hc⟩
  · show Bt n a
    unfold Bt at *; omega
  · show Bt n b
    unfold Bt at *; omega
def oft (f : I3) : Int := (f.1 - f.2.1).fdiv (2 * f.1)
def lowerT (f : I3) : I4 := if oft f ≠ 0 then (1, oft f, 0, 1) else (0, -1, 1, 0)
theorem lower_det {f : I3} : det (lowerT f) = 1 := by
  unfold lowerT
  split <;> simp [det]
theorem mov_lift {a b c k : Int} : mov (a, b, c) (1, k, 0, 1) = (a, b + 2 * a * k, a * k * k + b * k + c) := by
  simp only [mov, val, mid, Prod.mk.injEq]
  refine ⟨?_, ?_, ?_⟩ <;> grind
theorem mov_swap {a b c : Int} : mov (a, b, c) (0, -1, 1, 0) = (c, -b, a) := by
  simp only [mov, val, mid, Prod.mk.injEq]
  refine ⟨?_, ?_, ?_⟩ <;> grind
theorem oft_range {a b : Int} (h : 0 < a) : -a < b + 2 * a * ((a - b).fdiv (2 * a)) ∧ b + 2 * a * ((a - b).fdiv (2 * a)) ≤ a := by
  rw [Int.fdiv_eq_ediv_of_nonneg _ (by omega)]
  have h1 := Int.lt_mul_ediv_self_add (x := a - b) (show 0 < 2 * a by omega)
  have h2 := Int.mul_ediv_self_le (x := a - b) (k := 2 * a) (by omega)
  omega
theorem oft_zero {a b : Int} (h : 0 < a) (z : (a - b).fdiv (2 * a) = 0) : -a < b ∧ b ≤ a := by
  have := oft_range (b := b) h
  rw [z] at this
  omega
def msr (f : I3) : Nat := 4 * f.1.toNat + (if -f.1 < f.2.1 ∧ f.2.1 ≤ f.1 then 0 else 2) + (if f.2.1 < 0 then 1 else 0)
theorem bowl_c {f : I3} (h : Bowl f) : 0 < f.2.2 := by
  obtain ⟨a, b, c⟩ := f
  obtain ⟨h0, h1⟩ := h
  simp only [meas] at h0 h1 ⊢
  rcases Int.lt_or_le 0 c with h | h
  · exact h
  · exfalso
    have h2 : 0 ≤ b * b := sq_nonneg b
    have h3 : a * c ≤ a * 0 := Int.mul_le_mul_of_nonneg_left h (by omega)
    have e : 4 * a * c = 4 * (a * c) := by grind
    omega
theorem bowl_mov {f : I3} {t : I4} (h : Bowl f) (d : det t = 1) : Bowl (mov f t) := by
  have hm := meas_mov (f := f) d
  refine ⟨?_, by rw [hm]; exact h.2⟩
  obtain ⟨a, b, c⟩ := f
  obtain ⟨p, q, r, s⟩ := t
  obtain ⟨h0, h1⟩ := h
  show 0 < val (a, b, c) (p, r)
  simp only [meas] at h0 h1
  have e : 4 * (a * val (a, b, c) (p, r)) = (2 * a * p + b * r) * (2 * a * p + b * r) - (b * b - 4 * a * c) * (r * r) := by simp only [val]; grind
  have z1 := sq_nonneg (2 * a * p + b * r)
  have z2 : 0 ≤ (4 * a * c - b * b) * (r * r) := Int.mul_nonneg (by omega) (sq_nonneg r)
  have e2 : (4 * a * c - b * b) * (r * r) = -((b * b - 4 * a * c) * (r * r)) := by grind
  rcases Int.lt_or_le 0 (val (a, b, c) (p, r)) with h | h
  · exact h
  · exfalso
    have z3 : a * val (a, b, c) (p, r) ≤ a * 0 := Int.mul_le_mul_of_nonneg_left h (by omega)
    have hr : r * r = 0 := by
      by_cases hr : r = 0
      · rw [hr]; rfl
      · exfalso
        have := Int.mul_le_mul (show 1 ≤ 4 * a * c - b * b by omega) (sq_pos hr) (by omega) (by omega)
        omega
    have hr0 : r = 0 := by
      by_cases hr0 : r = 0
      · exact hr0
      · have := sq_pos hr0; omega
    subst hr0
    have hp : p ≠ 0 := fun hp => by subst hp; simp [det] at d
    have hp1 := sq_pos hp
    have e3 : val (a, b, c) (p, 0) = a * (p * p) := val_ax
    rw [e3] at h
    have := Int.mul_le_mul_of_nonneg_left hp1 (show 0 ≤ a by omega)
    omega
theorem lower_msr {f : I3} (h : Bowl f) (s : stands f = false) : msr (mov f (lowerT f)) < msr f := by
  obtain ⟨a, b, c⟩ := f
  have ha : 0 < a := h.1
  have hc : 0 < c := bowl_c h
  unfold lowerT
  by_cases ho : oft (a, b, c) = 0
  · rw [if_neg (by simpa using ho), mov_swap]
    have ⟨h1, h2⟩ : -a < b ∧ b ≤ a := oft_zero ha ho
    have hs : c < a ∨ (a = c ∧ b < 0) := by
      simp only [stands, Bool.and_eq_false_iff, Bool.or_eq_false_iff, decide_eq_false_iff_not] at s
      omega
    unfold msr
    simp only
    rw [if_pos (show -a < b ∧ b ≤ a from ⟨h1, h2⟩)]
    rcases hs with hs | ⟨hs, hb⟩
    · split <;> split <;> split <;> omega
    · subst hs
      rw [if_pos (show -a < -b ∧ -b ≤ a by omega), if_pos hb, if_neg (by omega)]
      omega
  · rw [if_pos ho, mov_lift]
    have ⟨h1, h2⟩ := oft_range (b := b) ha
    have hn : ¬ (-a < b ∧ b ≤ a) := fun z => ho (by
      show (a - b).fdiv (2 * a) = 0
      rw [Int.fdiv_eq_ediv_of_nonneg _ (by omega)]
      exact Int.ediv_eq_zero_of_lt (by omega) (by omega))
    unfold msr
    simp only
    show 4 * a.toNat + (if -a < b + 2 * a * ((a - b).fdiv (2 * a)) ∧ b + 2 * a * ((a - b).fdiv (2 * a)) ≤ a then 0 else 2) + (if b + 2 * a * ((a - b).fdiv (2 * a)) < 0 then 1 else 0) < _
    rw [if_pos ⟨h1, h2⟩, if_neg hn]
    split <;> split <;> omega
theorem lower_bt {f : I3} {n : Nat} (h : Bowl f) (s : stands f = false) (b1 : Bt n f.1) (b2 : Bt n f.2.1) : Bt n (mov f (lowerT f)).1 ∧ Bt n (mov f (lowerT f)).2.1 := by
  obtain ⟨a, b, c⟩ := f
  have ha : 0 < a := h.1
  have hc : 0 < c := bowl_c h
  have b1 : Bt n a := b1
  have b2 : Bt n b := b2
  unfold lowerT
  by_cases ho : oft (a, b, c) = 0
  · rw [if_neg (by simpa using ho), mov_swap]
    have ⟨h1, h2⟩ : -a < b ∧ b ≤ a := oft_zero ha ho
    have hs : c ≤ a := by
      simp only [stands, Bool.and_eq_false_iff, Bool.or_eq_false_iff, decide_eq_false_iff_not] at s
      omega
    refine ⟨?_, b2.neg⟩
    show Bt n c
    unfold Bt at *; omega
  · rw [if_pos ho, mov_lift]
    have ⟨h1, h2⟩ := oft_range (b := b) ha
    refine ⟨b1, ?_⟩
    show Bt n (b + 2 * a * ((a - b).fdiv (2 * a)))
    unfold Bt at *; omega
theorem bowl_bt {f : I3} {n m : Nat} (h : Bowl f) (b1 : Bt n f.1) (b2 : Bt n f.2.1) (hm : Bt m (meas f)) : B3 (n + n + m + 1) f := by
  obtain ⟨a, b, c⟩ := f
  have ha : 0 < a := h.1
  have hc : 0 < c := bowl_c h
  refine ⟨b1.le (by omega), b2.le (by omega), ?_⟩
  have z := (b2.mul b2).sub hm
  have e : b * b - meas (a, b, c) = 4 * (a * c) := by simp only [meas]; grind
  have z1 : 1 * c ≤ a * c := Int.mul_le_mul_of_nonneg_right (by omega) (by omega)
  have z' : Bt (max (n + n) m + 1) (4 * (a * c)) := by rw [← e]; exact z
  have z2 : Bt (max (n + n) m + 1) c := by unfold Bt at *; omega
  exact z2.le (by omega)
theorem sq_bt {n : Nat} {x : Int} (h : x * x < 2 ^ (2 * n)) : Bt n x := by
  unfold Bt
  rcases Nat.lt_or_ge x.natAbs (2 ^ n) with z | z
  · exact z
  · exfalso
    have := Nat.mul_le_mul z z
    rw [← Nat.pow_add, show n + n = 2 * n by omega] at this
    have e1 : (x.natAbs : Int) * x.natAbs = x * x := Int.natAbs_mul_self' x
    have : ((2 ^ (2 * n) : Nat) : Int) ≤ (x.natAbs : Int) * x.natAbs := by exact_mod_cast this
    rw [e1] at this
    push_cast at this
    omega
theorem point_bt {f : I3} {n m k : Nat} {x y : Int} (h : Bowl f) (hb : B3 n f) (hv : Bt m (val f (x, y))) (hk : n + m + 2 ≤ 2 * k) : B2 k (x, y) := by
  obtain ⟨a, b, c⟩ := f
  have ha : 0 < a := h.1
  have hc : 0 < c := bowl_c h
  have hm : b * b - 4 * a * c < 0 := h.2
  obtain ⟨h1, h2, h3⟩ := hb
  have h4 : Bt 3 4 := Bt.of_abs (by decide)
  have e1 : 4 * (a * val (a, b, c) (x, y)) = (2 * a * x + b * y) * (2 * a * x + b * y) + (4 * a * c - b * b) * (y * y) := by simp only [val]; grind
  have e2 : 4 * (c * val (a, b, c) (x, y)) = (2 * c * y + b * x) * (2 * c * y + b * x) + (4 * a * c - b * b) * (x * x) := by simp only [val]; grind
  have k1 : y * y ≤ 4 * (a * val (a, b, c) (x, y)) := by
    have z1 := sq_nonneg (2 * a * x + b * y)
    have z2 := Int.mul_le_mul_of_nonneg_right (show 1 ≤ 4 * a * c - b * b by omega) (sq_nonneg y)
    omega
  have k2 : x * x ≤ 4 * (c * val (a, b, c) (x, y)) := by
    have z1 := sq_nonneg (2 * c * y + b * x)
    have z2 := Int.mul_le_mul_of_nonneg_right (show 1 ≤ 4 * a * c - b * b by omega) (sq_nonneg x)
    omega
  have up : ∀ {z w : Int}, Bt n z → w ≤ 4 * (z * val (a, b, c) (x, y)) → w < 2 ^ (2 * k) := fun {z w} hz hw => by
    have h5 := hz.mul hv
    have h6 : Bt (n + m) (z * val (a, b, c) (x, y)) := h5
    have h7 : (4 : Int) * 2 ^ (n + m) ≤ 2 ^ (2 * k) := by
      have : (4 : Int) * 2 ^ (n + m) = 2 ^ (n + m + 2) := by rw [show n + m + 2 = (n + m) + 1 + 1 from rfl, Int.pow_succ, Int.pow_succ]; omega
      rw [this]
      have := Nat.pow_le_pow_right (show 0 < 2 by decide) hk
      exact_mod_cast this
    unfold Bt at h6
    have h8 : z * val (a, b, c) (x, y) < 2 ^ (n + m) := by
      have : ((z * val (a, b, c) (x, y)).natAbs : Int) < ((2 ^ (n + m) : Nat) : Int) := by exact_mod_cast h6
      push_cast at this
      omega
    omega
  exact ⟨sq_bt (up h3 k2), sq_bt (up h1 k1)⟩
theorem turn_bt {f : I3} {t : I4} {n m k : Nat} (h : Bowl f) (hb : B3 n f) (hg : B3 m (mov f t)) (hk : n + m + 2 ≤ 2 * k) : B4 k t := by
  have p1 := point_bt (x := t.1) (y := t.2.2.1) h hb hg.1 hk
  have p2 := point_bt (x := t.2.1) (y := t.2.2.2) h hb hg.2.2 hk
  exact ⟨p1.1, p2.1, p1.2, p2.2⟩
theorem lower_zero {f : I3} (h : oft f = 0) : lowerT f = (0, -1, 1, 0) := by unfold lowerT; rw [if_neg (by simpa using h)]
theorem lower_lift {f : I3} (h : ¬ oft f = 0) : lowerT f = (1, oft f, 0, 1) := by unfold lowerT; rw [if_pos h]
theorem lower_b4 {f : I3} {n : Nat} (h : 0 < f.1) (b1 : Bt n f.1) (b2 : Bt n f.2.1) : B4 (n + 1) (lowerT f) := by
  obtain ⟨a, b, c⟩ := f
  have h : 0 < a := h
  have b1 : Bt n a := b1
  have b2 : Bt n b := b2
  have one : Bt (n + 1) 1 := Bt.one.le (by omega)
  by_cases ho : oft (a, b, c) = 0
  · rw [lower_zero ho]
    exact ⟨Bt.zero.le (by omega), one.neg, one, Bt.zero.le (by omega)⟩
  · rw [lower_lift ho]
    refine ⟨one, ?_, Bt.zero.le (by omega), one⟩
    have ⟨h1, h2⟩ := oft_range (b := b) h
    show Bt (n + 1) ((a - b).fdiv (2 * a))
    generalize (a - b).fdiv (2 * a) = k at *
    have e : 2 * a * k = 2 * (a * k) := by grind
    have z : (k.natAbs : Int) ≤ ((a * k).natAbs : Int) := by
      rw [Int.natAbs_mul]
      have := Nat.mul_le_mul_right k.natAbs (show 1 ≤ a.natAbs by omega)
      omega
    unfold Bt at *
    rw [Nat.pow_succ]
    omega
end My

namespace My
open PySem L2
structure Sad (f : I3) : Prop where
  no : ¬ isSq (meas f)
  pos : 0 < meas f
  most : meas f ≤ 4000
def Level (f : I3) (far : Int) : Prop := (0 < f.2.1 ∧ f.2.1 ≤ far) ∧ far - f.2.1 < 2 * (if f.1 < 0 then -f.1 else f.1) ∧ 2 * (if f.1 < 0 then -f.1 else f.1) ≤ far + f.2.1
instance {f : I3} {far : Int} : Decidable (Level f far) := by unfold Level; infer_instance
theorem Sad.mov {f : I3} {t : I4} (h : Sad f) (d : det t = 1) : Sad (mov f t) := by
  have e := meas_mov (f := f) d
  exact ⟨by rw [e]; exact h.no, by rw [e]; exact h.pos, by rw [e]; exact h.most⟩
end My

namespace My
open PySem L2
abbrev ab (x : Int) : Int := if x < 0 then -x else x
theorem ab_cases (x : Int) : (0 ≤ x ∧ ab x = x) ∨ (x < 0 ∧ ab x = -x) := by
  rcases Int.lt_or_le x 0 with h | h
  · exact .inr ⟨h, if_pos h⟩
  · exact .inl ⟨h, if_neg (by omega)⟩
theorem ab_nonneg (x : Int) : 0 ≤ ab x := by rcases ab_cases x with ⟨h, e⟩ | ⟨h, e⟩ <;> omega
def dB (f : I3) (top : Int) : Int := top - (top + f.2.1).fmod (2 * ab f.2.2)
def kB (f : I3) (top : Int) : Int := (f.2.1 + dB f top).fdiv (2 * f.2.2)
def behT (f : I3) (top : Int) : I4 := (0, -1, 1, kB f top)
theorem beh_det {f : I3} {top : Int} : det (behT f top) = 1 := by simp [det, behT]
theorem dB_range {f : I3} {top : Int} (h : f.2.2 ≠ 0) : top - 2 * ab f.2.2 < dB f top ∧ dB f top ≤ top := by
  have hc : 0 < 2 * ab f.2.2 := by rcases ab_cases f.2.2 with ⟨_, e⟩ | ⟨_, e⟩ <;> omega
  have := fm_range (top + f.2.1) hc
  unfold dB
  omega
theorem kB_mul {f : I3} {top : Int} (h : f.2.2 ≠ 0) : 2 * f.2.2 * kB f top = f.2.1 + dB f top := by
  unfold kB dB
  have e := Int.fmod_def (top + f.2.1) (2 * ab f.2.2)
  generalize (top + f.2.1).fdiv (2 * ab f.2.2) = q at *
  have e1 : f.2.1 + (top - (top + f.2.1).fmod (2 * ab f.2.2)) = 2 * ab f.2.2 * q := by omega
  rw [e1]
  rcases ab_cases f.2.2 with ⟨_, e2⟩ | ⟨_, e2⟩
  · rw [e2, Int.mul_fdiv_cancel_left _ (by omega)]
  · have e3 : 2 * ab f.2.2 * q = 2 * f.2.2 * (-q) := by rw [e2]; grind
    rw [e3, Int.mul_fdiv_cancel_left _ (by omega)]
theorem mov_beh {f : I3} {top : Int} (h : f.2.2 ≠ 0) : ∃ e, mov f (behT f top) = (f.2.2, dB f top, e) := by
  have hk := kB_mul (top := top) h
  obtain ⟨a, b, c⟩ := f
  refine ⟨(mov (a, b, c) (behT (a, b, c) top)).2.2, ?_⟩
  have e1 : (mov (a, b, c) (behT (a, b, c) top)).1 = c := by simp only [mov, val, behT]; grind
  have e2 : (mov (a, b, c) (behT (a, b, c) top)).2.1 = dB (a, b, c) top := by
    simp only [mov, mid, behT]
    simp only at hk
    generalize kB (a, b, c) top = k at *
    have : 2 * a * 0 * -1 + b * (0 * k + -1 * 1) + 2 * c * 1 * k = 2 * c * k - b := by grind
    omega
  ext1
  · exact e1
  · ext1
    · exact e2
    · rfl
theorem far_lt {D far : Int} (r : Sq D far) (n : ¬ isSq D) : far * far < D := by
  rcases Int.lt_or_le (far * far) D with h | h
  · exact h
  · exact absurd ⟨far, by have := r.2.1; omega⟩ n
theorem far_63 {D far : Int} (r : Sq D far) (m : D ≤ 4000) : far ≤ 63 := by
  rcases Int.lt_or_le far 64 with h | h
  · omega
  · have := Int.mul_le_mul h h (by decide) r.1
    have := r.2.1
    omega
theorem sad_c {f : I3} (S : Sad f) : f.2.2 ≠ 0 := fun h => S.no ⟨f.2.1, by
  obtain ⟨a, b, c⟩ := f
  simp only at h
  subst h
  simp only [meas]
  omega⟩
theorem ab_mul (x y : Int) : ab x * ab y = ab (x * y) := by
  rcases ab_cases x with ⟨h1, e1⟩ | ⟨h1, e1⟩ <;> rcases ab_cases y with ⟨h2, e2⟩ | ⟨h2, e2⟩ <;> rw [e1, e2]
  · have := Int.mul_nonneg h1 h2
    exact (if_neg (by omega)).symm
  · have := Int.mul_nonneg h1 (show 0 ≤ -y by omega)
    have e : x * -y = -(x * y) := by grind
    by_cases h : x * y < 0
    · rw [ab, if_pos h, e]
    · rw [ab, if_neg h]; omega
  · have := Int.mul_nonneg (show 0 ≤ -x by omega) h2
    have e : -x * y = -(x * y) := by grind
    by_cases h : x * y < 0
    · rw [ab, if_pos h, e]
    · rw [ab, if_neg h]; omega
  · have := Int.mul_nonneg (show 0 ≤ -x by omega) (show 0 ≤ -y by omega)
    have e : -x * -y = x * y := by grind
    rw [ab, if_neg (by omega), e]
theorem last_eq {c d e D : Int} (h : meas (c, d, e) = D) : 4 * (ab c * ab e) = ab (d * d - D) := by
  have : d * d - D = 4 * (c * e) := by rw [← h]; simp only [meas]; grind
  rw [this, ab_mul]
  rcases ab_cases (c * e) with ⟨h1, e1⟩ | ⟨h1, e1⟩
  · rw [e1, ab, if_neg (by omega)]
  · rw [e1, ab, if_pos (by omega)]; omega
theorem beh_end {c d e far : Int} (hc : 2 * ab c ≤ far) (h1 : far - 2 * ab c < d) (h2 : d ≤ far) : Level (c, d, e) far := by
  refine ⟨⟨?_, h2⟩, ?_, ?_⟩
  · show 0 < d; omega
  · show far - d < 2 * ab c; omega
  · show 2 * ab c ≤ far + d; omega
theorem level_c {f : I3} {far : Int} (r : Sq (meas f) far) (n : ¬ isSq (meas f)) (L : Level f far) : far - f.2.1 < 2 * ab f.2.2 ∧ 2 * ab f.2.2 ≤ far + f.2.1 := by
  obtain ⟨a, b, c⟩ := f
  obtain ⟨⟨l1, l2⟩, l3, l4⟩ := L
  have l1 : 0 < b := l1
  have l2 : b ≤ far := l2
  have l3 : far - b < 2 * ab a := l3
  have l4 : 2 * ab a ≤ far + b := l4
  show far - b < 2 * ab c ∧ 2 * ab c ≤ far + b
  have hf := far_lt r n
  have hD := r.2.2
  have k : 4 * (ab a * ab c) = ab (b * b - meas (a, b, c)) := last_eq (c := a) (d := b) (e := c) rfl
  generalize meas (a, b, c) = D at *
  have hb : b * b ≤ far * far := Int.mul_le_mul l2 l2 (by omega) (by omega)
  have k2 : (2 * ab a) * (2 * ab c) = D - b * b := by
    have e1 : (2 * ab a) * (2 * ab c) = 4 * (ab a * ab c) := by grind
    rcases ab_cases (b * b - D) with ⟨_, e⟩ | ⟨_, e⟩ <;> omega
  generalize 2 * ab a = A at *
  have hC0 : 0 ≤ 2 * ab c := by have := ab_nonneg c; omega
  generalize 2 * ab c = C at *
  constructor
  · rcases Int.lt_or_le (far - b) C with z | z
    · exact z
    · exfalso
      have z1 : A * C ≤ (far + b) * (far - b) := Int.mul_le_mul l4 z hC0 (by omega)
      have e1 : (far + b) * (far - b) = far * far - b * b := by grind
      omega
  · rcases Int.lt_or_le (far + b) C with z | z
    · exfalso
      have z1 : (far - b + 1) * (far + b + 1) ≤ A * C := Int.mul_le_mul (by omega) (by omega) (by omega) (by omega)
      have e1 : (far - b + 1) * (far + b + 1) = (far + 1) * (far + 1) - b * b := by grind
      omega
    · exact z
theorem level_next {f : I3} {far : Int} (S : Sad f) (r : Sq (meas f) far) (L : Level f far) : Level (mov f (behT f far)) far := by
  have hc := sad_c S
  obtain ⟨e, he⟩ := mov_beh (top := far) hc
  rw [he]
  have ⟨d1, d2⟩ := dB_range (top := far) hc
  have ⟨c1, c2⟩ := level_c r S.no L
  obtain ⟨⟨l1, l2⟩, _, _⟩ := L
  have hk := kB_mul (top := far) hc
  have d3 : far - 2 * ab f.2.2 < dB f far := d1
  by_cases hC : 2 * ab f.2.2 ≤ far
  · exact beh_end hC d1 d2
  · -- then d is 2 |c| - b
    have hd : dB f far = 2 * ab f.2.2 - f.2.1 := by
      have e1 : f.2.1 + dB f far = 2 * (f.2.2 * kB f far) := by rw [← hk]; grind
      have hx : ab (f.2.2 * kB f far) = ab f.2.2 * ab (kB f far) := (ab_mul _ _).symm
      have hpos : 0 < f.2.2 * kB f far := by omega
      have hx2 : f.2.2 * kB f far = ab f.2.2 * ab (kB f far) := by rw [← hx, ab, if_neg (by omega)]
      have hk0 : 0 < ab (kB f far) := by
        rcases Int.lt_or_le 0 (ab (kB f far)) with z | z
        · exact z
        · have : ab (kB f far) = 0 := by have := ab_nonneg (kB f far); omega
          rw [this] at hx2
          omega
      have hk1 : ab (kB f far) = 1 := by
        rcases Int.lt_or_le (ab (kB f far)) 2 with z | z
        · omega
        · exfalso
          have := Int.mul_le_mul_of_nonneg_left z (ab_nonneg f.2.2)
          omega
      rw [hk1] at hx2
      omega
    refine ⟨⟨?_, d2⟩, ?_, ?_⟩
    · show 0 < dB f far; omega
    · show far - dB f far < 2 * ab f.2.2; omega
    · show 2 * ab f.2.2 ≤ far + dB f far; omega
end My

namespace My
open PySem L2
abbrev bl (x : Int) : Nat := Builtin.Int.intBits x
theorem bl_le {n : Nat} {x : Int} (h : Bt n x) : bl x ≤ n := intBits_le_iff.mpr h
def EInv (n : Nat) (far : Int) (f0 : I3) (t : I4) : Prop :=
  det t = 1 ∧ B3 n (mov f0 t) ∧
  (if far < ab (mov f0 t).2.2 then ∃ β x, B4 β t ∧ Bt x (mov f0 t).2.1 ∧ bl (mov f0 t).2.2 ≤ x ∧ β + x + bl (mov f0 t).2.2 ≤ 2 * n + 1
   else if Level (mov f0 t) far then B4 (5 * n + 30) t else if far < 2 * ab (mov f0 t).2.2 then B4 (3 * n + 10) t else B4 (4 * n + 20) t)
theorem EInv.b4 {n : Nat} {far : Int} {f0 : I3} {t : I4} (h : EInv n far f0 t) : B4 (5 * n + 30) t := by
  obtain ⟨_, _, h⟩ := h
  split at h
  · obtain ⟨β, x, hb, _, _, _⟩ := h
    exact hb.le (by omega)
  · split at h
    · exact h
    · split at h
      · exact h.le (by omega)
      · exact h.le (by omega)
theorem EInv.start {n : Nat} {far : Int} {f : I3} (hn : 1 ≤ n) (hf : B3 n f) : EInv n far f (1, 0, 0, 1) := by
  have one : B4 1 (1, 0, 0, 1) := ⟨Bt.one, Bt.zero.le (by omega), Bt.zero.le (by omega), Bt.one⟩
  unfold EInv
  rw [mov_same]
  refine ⟨rfl, hf, ?_⟩
  split
  · exact ⟨1, n, one, hf.2.1, bl_le hf.2.2, by have := bl_le hf.2.2; omega⟩
  · split
    · exact one.le (by omega)
    · split
      · exact one.le (by omega)
      · exact one.le (by omega)
end My

namespace My
open PySem L2
def Riv (f : I3) : Prop := (0 < f.1 ∧ f.2.2 < 0) ∧ ¬ isSq (meas f)
abbrev tR : I4 := (1, 1, 0, 1)
abbrev tL : I4 := (1, 0, 1, 1)
def sm (f : I3) : Int := f.1 + f.2.1 + f.2.2
theorem mov_R {a b c : Int} : mov (a, b, c) tR = (a, b + 2 * a, a + b + c) := by
  simp only [mov, val, mid, Prod.mk.injEq]
  refine ⟨?_, ?_, ?_⟩ <;> grind
theorem mov_L {a b c : Int} : mov (a, b, c) tL = (a + b + c, b + 2 * c, c) := by
  simp only [mov, val, mid, Prod.mk.injEq]
  refine ⟨?_, ?_, ?_⟩ <;> grind
theorem sm_ne {f : I3} (n : ¬ isSq (meas f)) : sm f ≠ 0 := fun h => n ⟨f.1 - f.2.2, by
  obtain ⟨a, b, c⟩ := f
  simp only [sm, meas] at *
  have : b = -(a + c) := by omega
  subst this
  grind⟩
def stT (f : I3) : I4 := if sm f < 0 then tR else tL
def nx (f : I3) : I3 := mov f (stT f)
theorem st_det {f : I3} : det (stT f) = 1 := by unfold stT; split <;> rfl
theorem Riv.next {f : I3} (h : Riv f) : Riv (nx f) := by
  have hm := meas_mov (f := f) (st_det (f := f))
  refine ⟨?_, by unfold nx; rw [hm]; exact h.2⟩
  have hs := sm_ne h.2
  obtain ⟨a, b, c⟩ := f
  obtain ⟨⟨h1, h2⟩, _⟩ := h
  by_cases h : sm (a, b, c) < 0
  · have e : nx (a, b, c) = (a, b + 2 * a, a + b + c) := by unfold nx; rw [show stT (a, b, c) = tR from if_pos h]; exact mov_R
    rw [e]; exact ⟨h1, h⟩
  · have e : nx (a, b, c) = (a + b + c, b + 2 * c, c) := by unfold nx; rw [show stT (a, b, c) = tL from if_neg h]; exact mov_L
    rw [e]
    refine ⟨?_, h2⟩
    simp only [sm] at h hs ⊢
    omega
structure NN (t : I4) : Prop where
  p : 1 ≤ t.1
  q : 0 ≤ t.2.1
  r : 0 ≤ t.2.2.1
  s : 1 ≤ t.2.2.2
  d : det t = 1
def sz (t : I4) : Nat := (t.1 + t.2.1 + t.2.2.1 + t.2.2.2).toNat
theorem NN.split {t : I4} (h : NN t) : t = (1, 0, 0, 1) ∨ (∃ u, NN u ∧ t = thenV tR u ∧ sz u < sz t) ∨ (∃ u, NN u ∧ t = thenV tL u ∧ sz u < sz t) := by
  obtain ⟨p, q, r, s⟩ := t
  obtain ⟨hp, hq, hr, hs, hd⟩ := h
  simp only [det] at *
  by_cases c1 : r ≤ p ∧ s ≤ q
  · refine .inr (.inl ⟨(p - r, q - s, r, s), ⟨?_, by simp only; omega, hr, hs, ?_⟩, ?_, ?_⟩)
    · show 1 ≤ p - r
      have e : (p - r) * s - (q - s) * r = 1 := by grind
      have z := Int.mul_nonneg (show 0 ≤ q - s by omega) hr
      rcases Int.lt_or_le (p - r) 1 with w | w
      · have : (p - r) * s ≤ 0 * s := Int.mul_le_mul_of_nonneg_right (by omega) (by omega)
        omega
      · exact w
    · show (p - r) * s - (q - s) * r = 1
      grind
    · simp only [thenV, Prod.mk.injEq]
      refine ⟨?_, ?_, ?_, ?_⟩ <;> omega
    · simp only [sz]; omega
  · by_cases c2 : p ≤ r ∧ q ≤ s
    · refine .inr (.inr ⟨(p, q, r - p, s - q), ⟨hp, hq, by simp only; omega, ?_, ?_⟩, ?_, ?_⟩)
      · show 1 ≤ s - q
        have e : p * (s - q) - q * (r - p) = 1 := by grind
        have z := Int.mul_nonneg hq (show 0 ≤ r - p by omega)
        rcases Int.lt_or_le (s - q) 1 with w | w
        · have : p * (s - q) ≤ p * 0 := Int.mul_le_mul_of_nonneg_left (by omega) (by omega)
          omega
        · exact w
      · show p * (s - q) - q * (r - p) = 1
        grind
      · simp only [thenV, Prod.mk.injEq]
        refine ⟨?_, ?_, ?_, ?_⟩ <;> omega
      · simp only [sz]; omega
    · rcases Int.lt_or_le r p with w | w
      · -- then q < s
        have w2 : q < s := by omega
        have z := Int.mul_le_mul (show r + 1 ≤ p by omega) (show q + 1 ≤ s by omega) (by omega) (by omega)
        have e : (r + 1) * (q + 1) = r * q + r + q + 1 := by grind
        have e2 : r * q = q * r := Int.mul_comm r q
        have r0 : r = 0 := by omega
        have q0 : q = 0 := by omega
        subst r0 q0
        left
        have hps : p * s = 1 := by omega
        have p1 : p = 1 := by
          rcases Int.lt_or_le p 2 with v | v
          · omega
          · have := Int.mul_le_mul v hs (by decide) (by omega)
            omega
        subst p1
        have : s = 1 := by omega
        rw [this]
      · -- p ≤ r, so s < q
        have w2 : s < q := by omega
        have w3 : p < r := by
          rcases Int.lt_or_le p r with v | v
          · exact v
          · have : p = r := by omega
            subst this
            exfalso
            have e : p * s - q * p = p * (s - q) := by grind
            have := Int.mul_le_mul_of_nonneg_left (show s - q ≤ -1 by omega) (show 0 ≤ p by omega)
            omega
        exfalso
        have z := Int.mul_le_mul (show p ≤ r - 1 by omega) (show s ≤ q - 1 by omega) (by omega) (by omega)
        have e : (r - 1) * (q - 1) = q * r - r - q + 1 := by grind
        omega
def wd : Nat → I3 → I4
  | 0, _ => (1, 0, 0, 1)
  | n + 1, f => thenV (stT f) (wd n (nx f))
theorem same_then {t : I4} : thenV (1, 0, 0, 1) t = t := by
  obtain ⟨p, q, r, s⟩ := t
  simp only [thenV, Prod.mk.injEq]
  refine ⟨?_, ?_, ?_, ?_⟩ <;> omega
theorem then_same {t : I4} : thenV t (1, 0, 0, 1) = t := by
  obtain ⟨p, q, r, s⟩ := t
  simp only [thenV, Prod.mk.injEq]
  refine ⟨?_, ?_, ?_, ?_⟩ <;> omega
theorem then_assoc {t u v : I4} : thenV (thenV t u) v = thenV t (thenV u v) := by
  obtain ⟨a, b, c, d⟩ := t; obtain ⟨e, f, g, h⟩ := u; obtain ⟨i, j, k, l⟩ := v
  simp only [thenV, Prod.mk.injEq]
  refine ⟨?_, ?_, ?_, ?_⟩ <;> grind
theorem pos_val {a b c x y : Int} (ha : 0 < a) (hb : 0 < b) (hc : 0 < c) (hx : 0 ≤ x) (hy : 0 ≤ y) : 0 ≤ val (a, b, c) (x, y) := by
  have e : val (a, b, c) (x, y) = a * (x * x) + b * (x * y) + c * (y * y) := by simp only [val]; grind
  have h1 := Int.mul_nonneg (show 0 ≤ a by omega) (Int.mul_nonneg hx hx)
  have h2 := Int.mul_nonneg (show 0 ≤ b by omega) (Int.mul_nonneg hx hy)
  have h3 := Int.mul_nonneg (show 0 ≤ c by omega) (Int.mul_nonneg hy hy)
  omega
theorem neg_val {a b c x y : Int} (ha : a < 0) (hb : b < 0) (hc : c < 0) (hx : 0 ≤ x) (hy : 0 ≤ y) : val (a, b, c) (x, y) ≤ 0 := by
  have := pos_val (a := -a) (b := -b) (c := -c) (by omega) (by omega) (by omega) hx hy
  have e : val (-a, -b, -c) (x, y) = -val (a, b, c) (x, y) := by simp only [val]; grind
  omega
theorem along : ∀ (m : Nat) (f : I3) (t : I4), sz t ≤ m → Riv f → NN t → Riv (mov f t) → ∃ n, t = wd n f := by
  intro m
  induction m with
  | zero =>
    intro f t hs _ hN _
    exfalso
    have := hN.p; have := hN.q; have := hN.r; have := hN.s
    unfold sz at hs
    omega
  | succ m ih =>
    intro f t hs hf hN hg
    rcases hN.split with e | ⟨u, hu, e, hl⟩ | ⟨u, hu, e, hl⟩
    · exact ⟨0, e⟩
    · have hsm : sm f < 0 := by
        have hne := sm_ne hf.2
        rcases Int.lt_or_le (sm f) 0 with z | z
        · exact z
        · exfalso
          rw [e, ← mov_then] at hg
          obtain ⟨a, b, c⟩ := f
          obtain ⟨p, q, r, s⟩ := u
          rw [mov_R] at hg
          have h1 : (mov (a, b + 2 * a, a + b + c) (p, q, r, s)).2.2 < 0 := hg.1.2
          have h2 : 0 < a := hf.1.1
          have h3 : c < 0 := hf.1.2
          simp only [sm] at hne z
          have h4 : 0 ≤ val (a, b + 2 * a, a + b + c) (q, s) := pos_val h2 (by omega) (by omega) hu.q (by have := hu.s; simp only at this; omega)
          have h5 : (mov (a, b + 2 * a, a + b + c) (p, q, r, s)).2.2 = val (a, b + 2 * a, a + b + c) (q, s) := rfl
          omega
      have hst : stT f = tR := by unfold stT; rw [if_pos hsm]
      have hnx : nx f = mov f tR := by unfold nx; rw [hst]
      have hr := hf.next
      obtain ⟨n, en⟩ := ih (nx f) u (by omega) hr hu (by rw [hnx, mov_then, ← e]; exact hg)
      exact ⟨n + 1, by rw [wd, hst, ← en]; exact e⟩
    · have hsm : ¬ sm f < 0 := by
        intro z
        rw [e, ← mov_then] at hg
        obtain ⟨a, b, c⟩ := f
        obtain ⟨p, q, r, s⟩ := u
        rw [mov_L] at hg
        have h1 : 0 < (mov (a + b + c, b + 2 * c, c) (p, q, r, s)).1 := hg.1.1
        have h2 : 0 < a := hf.1.1
        have h3 : c < 0 := hf.1.2
        simp only [sm] at z
        have h4 : val (a + b + c, b + 2 * c, c) (p, r) ≤ 0 := neg_val (by omega) (by omega) h3 (by have := hu.p; simp only at this; omega) hu.r
        have h5 : (mov (a + b + c, b + 2 * c, c) (p, q, r, s)).1 = val (a + b + c, b + 2 * c, c) (p, r) := rfl
        omega
      have hst : stT f = tL := by unfold stT; rw [if_neg hsm]
      have hnx : nx f = mov f tL := by unfold nx; rw [hst]
      have hr := hf.next
      obtain ⟨n, en⟩ := ih (nx f) u (by omega) hr hu (by rw [hnx, mov_then, ← e]; exact hg)
      exact ⟨n + 1, by rw [wd, hst, ← en]; exact e⟩
def negT (t : I4) : I4 := (-t.1, -t.2.1, -t.2.2.1, -t.2.2.2)
theorem mov_neg {f : I3} {t : I4} : mov f (negT t) = mov f t := by
  obtain ⟨a, b, c⟩ := f; obtain ⟨p, q, r, s⟩ := t
  simp only [mov, val, mid, negT, Prod.mk.injEq]
  refine ⟨?_, ?_, ?_⟩ <;> grind
theorem neg_neg {t : I4} : negT (negT t) = t := by
  obtain ⟨p, q, r, s⟩ := t
  simp only [negT, Prod.mk.injEq]
  refine ⟨?_, ?_, ?_, ?_⟩ <;> omega
theorem det_neg {t : I4} : det (negT t) = det t := by
  obtain ⟨p, q, r, s⟩ := t
  simp only [det, negT]; grind
theorem back_neg {t : I4} : backV (negT t) = negT (backV t) := by
  obtain ⟨p, q, r, s⟩ := t
  simp only [backV, negT]
theorem signs {f : I3} {t : I4} (hf : Riv f) (hd : det t = 1) (hg : Riv (mov f t)) (hp : 0 ≤ t.1) : NN t ∨ NN (backV t) := by
  obtain ⟨a, b, c⟩ := f
  obtain ⟨p, q, r, s⟩ := t
  have ha : 0 < a := hf.1.1
  have hc : c < 0 := hf.1.2
  have hu : 0 < val (a, b, c) (p, r) := hg.1.1
  have hv : val (a, b, c) (q, s) < 0 := hg.1.2
  have hp : 0 ≤ p := hp
  have p0 : p ≠ 0 := fun e => by
    subst e
    rw [val_ay] at hu
    have := Int.mul_nonneg (show 0 ≤ -c by omega) (sq_nonneg r)
    have e : -c * (r * r) = -(c * (r * r)) := by grind
    omega
  have s0 : s ≠ 0 := fun e => by
    subst e
    rw [val_ax] at hv
    have := Int.mul_nonneg (show 0 ≤ a by omega) (sq_nonneg q)
    omega
  have hd' : p * s - q * r = 1 := hd
  have key : val (a, b, c) (p, r) * (q * s) - val (a, b, c) (q, s) * (p * r) = (p * s - q * r) * (a * (p * q) - c * (r * s)) := by simp only [val]; grind
  have hs : 0 < s := by
    rcases Int.lt_or_le 0 s with z | z
    · exact z
    · exfalso
      have z : s ≤ -1 := by omega
      have h1 : p * s ≤ 1 * -1 := by
        have := Int.mul_le_mul_of_nonneg_left z (show 0 ≤ p by omega)
        omega
      have hqr : q * r ≤ -2 := by omega
      rw [hd', Int.one_mul] at key
      rcases Int.lt_or_le q 0 with hq | hq
      · have hr : 0 < r := by
          rcases Int.lt_or_le 0 r with w | w
          · exact w
          · have := Int.mul_nonneg_of_nonpos_of_nonpos (show q ≤ 0 by omega) w
            omega
        -- q s > 0, p r > 0: left above nought; right below
        have k1 := Int.mul_pos hu (Int.mul_pos_of_neg_of_neg hq (show s < 0 by omega))
        have k2 := Int.mul_neg_of_neg_of_pos hv (Int.mul_pos (show 0 < p by omega) hr)
        have k3 := Int.mul_neg_of_pos_of_neg ha (Int.mul_neg_of_pos_of_neg (show 0 < p by omega) hq)
        have k4 := Int.mul_pos_of_neg_of_neg hc (Int.mul_neg_of_pos_of_neg hr (show s < 0 by omega))
        omega
      · have hq' : 0 < q := by
          rcases Int.lt_or_le 0 q with w | w
          · exact w
          · have : q = 0 := by omega
            subst this
            omega
        have hr : r < 0 := by
          rcases Int.lt_or_le r 0 with w | w
          · exact w
          · have := Int.mul_nonneg hq w
            omega
        have k1 := Int.mul_neg_of_pos_of_neg hu (Int.mul_neg_of_pos_of_neg hq' (show s < 0 by omega))
        have k2 := Int.mul_pos_of_neg_of_neg hv (Int.mul_neg_of_pos_of_neg (show 0 < p by omega) hr)
        have k3 := Int.mul_pos ha (Int.mul_pos (show 0 < p by omega) hq')
        have k4 := Int.mul_neg_of_neg_of_pos hc (Int.mul_pos_of_neg_of_neg hr (show s < 0 by omega))
        omega
  have hps := Int.mul_le_mul (show 1 ≤ p by omega) (show 1 ≤ s by omega) (by decide) (by omega)
  by_cases hq : 0 ≤ q ∧ 0 ≤ r
  · exact .inl ⟨by simp only; omega, hq.1, hq.2, by simp only; omega, hd⟩
  · right
    have hqr : q ≤ 0 ∧ r ≤ 0 := by
      rcases Int.lt_trichotomy q 0 with w | w | w
      · refine ⟨by omega, ?_⟩
        rcases Int.lt_or_le 0 r with v | v
        · have := Int.mul_neg_of_neg_of_pos w v; omega
        · exact v
      · omega
      · exfalso
        have : r < 0 := by omega
        have := Int.mul_neg_of_pos_of_neg w this
        omega
    exact ⟨by simp only [backV]; omega, by simp only [backV]; omega, by simp only [backV]; omega, by simp only [backV]; omega, det_back.trans hd⟩
theorem river {f : I3} {t : I4} (hf : Riv f) (hd : det t = 1) (hg : Riv (mov f t)) :
    (∃ n, t = wd n f ∨ t = negT (wd n f)) ∨ (∃ n, backV t = wd n (mov f t) ∨ backV t = negT (wd n (mov f t))) := by
  have core : ∀ t : I4, det t = 1 → Riv (mov f t) → 0 ≤ t.1 → (∃ n, t = wd n f) ∨ (∃ n, backV t = wd n (mov f t)) := fun t hd hg hp => by
    rcases signs hf hd hg hp with h | h
    · exact .inl (along _ f t (Nat.le_refl _) hf h hg)
    · exact .inr (along _ (mov f t) (backV t) (Nat.le_refl _) hg h (by rw [mov_back hd]; exact hf))
  rcases Int.le_total 0 t.1 with hp | hp
  · rcases core t hd hg hp with ⟨n, h⟩ | ⟨n, h⟩
    · exact .inl ⟨n, .inl h⟩
    · exact .inr ⟨n, .inl h⟩
  · rcases core (negT t) (det_neg.trans hd) (by rw [mov_neg]; exact hg) (by show 0 ≤ -t.1; omega) with ⟨n, h⟩ | ⟨n, h⟩
    · exact .inl ⟨n, .inr (by rw [← h, neg_neg])⟩
    · rw [mov_neg, back_neg] at h
      exact .inr ⟨n, .inr (by rw [← h, neg_neg])⟩
end My

namespace My
open PySem L2
structure Lv (far : Int) (f : I3) : Prop where
  S : Sad f
  r : Sq (meas f) far
  L : Level f far
abbrev aft (far : Int) (f : I3) : I3 := mov f (behT f far)
theorem Lv.next {far : Int} {f : I3} (h : Lv far f) : Lv far (aft far f) :=
  ⟨h.S.mov beh_det, by rw [meas_mov beh_det]; exact h.r, level_next h.S h.r h.L⟩
theorem Lv.ac {far : Int} {f : I3} (h : Lv far f) : f.1 * f.2.2 < 0 := by
  have hf := far_lt h.r h.S.no
  obtain ⟨⟨l1, l2⟩, _, _⟩ := h.L
  obtain ⟨a, b, c⟩ := f
  have l1 : 0 < b := l1
  have l2 : b ≤ far := l2
  have hb : b * b ≤ far * far := Int.mul_le_mul l2 l2 (by omega) (by omega)
  have e : meas (a, b, c) = b * b - 4 * (a * c) := by simp only [meas]; grind
  show a * c < 0
  omega
theorem Lv.neg {far : Int} {f : I3} (h : Lv far f) (ha : 0 < f.1) : f.2.2 < 0 := by
  rcases Int.lt_or_le f.2.2 0 with z | z
  · exact z
  · have := h.ac
    have := Int.mul_nonneg (show 0 ≤ f.1 by omega) z
    omega
theorem Lv.pos {far : Int} {f : I3} (h : Lv far f) (ha : f.1 < 0) : 0 < f.2.2 := by
  rcases Int.lt_or_le 0 f.2.2 with z | z
  · exact z
  · have := h.ac
    have := Int.mul_nonneg_of_nonpos_of_nonpos (show f.1 ≤ 0 by omega) z
    omega
end My

namespace My
open PySem L2
def Sg (t u : I4) : Prop := t = u ∨ t = negT u
theorem neg_then {t u : I4} : thenV (negT t) u = negT (thenV t u) := by
  obtain ⟨a, b, c, d⟩ := t; obtain ⟨e, f, g, h⟩ := u
  simp only [thenV, negT, Prod.mk.injEq]
  refine ⟨?_, ?_, ?_, ?_⟩ <;> grind
theorem then_neg {t u : I4} : thenV t (negT u) = negT (thenV t u) := by
  obtain ⟨a, b, c, d⟩ := t; obtain ⟨e, f, g, h⟩ := u
  simp only [thenV, negT, Prod.mk.injEq]
  refine ⟨?_, ?_, ?_, ?_⟩ <;> grind
theorem Sg.refl {t : I4} : Sg t t := .inl rfl
theorem Sg.symm {t u : I4} (h : Sg t u) : Sg u t := by
  rcases h with h | h
  · exact .inl h.symm
  · exact .inr (by rw [h, neg_neg])
theorem Sg.trans {t u v : I4} (h : Sg t u) (k : Sg u v) : Sg t v := by
  rcases h with rfl | rfl <;> rcases k with rfl | rfl
  · exact .inl rfl
  · exact .inr rfl
  · exact .inr rfl
  · exact .inl neg_neg
theorem Sg.then {t u t' u' : I4} (h : Sg t t') (k : Sg u u') : Sg (thenV t u) (thenV t' u') := by
  rcases h with rfl | rfl <;> rcases k with rfl | rfl
  · exact .inl rfl
  · exact .inr then_neg
  · exact .inr neg_then
  · exact .inl (by rw [neg_then, then_neg, neg_neg])
theorem Sg.back {t u : I4} (h : Sg t u) : Sg (backV t) (backV u) := by
  rcases h with rfl | rfl
  · exact .inl rfl
  · exact .inr back_neg
theorem Sg.mov {f : I3} {t u : I4} (h : Sg t u) : mov f t = mov f u := by
  rcases h with rfl | rfl
  · rfl
  · exact mov_neg
theorem Lv.range {far : Int} {f : I3} (h : Lv far f) : (-63 ≤ f.1 ∧ f.1 ≤ 63) ∧ (0 < f.2.1 ∧ f.2.1 ≤ 63) := by
  have h6 := far_63 h.r h.S.most
  obtain ⟨⟨l1, l2⟩, _, l4⟩ := h.L
  have l4 : 2 * ab f.1 ≤ far + f.2.1 := l4
  rcases ab_cases f.1 with ⟨_, e⟩ | ⟨_, e⟩ <;> omega
end My

namespace My
open PySem L2
def tr (t : I4) : Int := t.1 + t.2.2.2
theorem own_eqs {f : I3} {t : I4} (hd : det t = 1) (e : mov f t = f) : f.1 * t.2.1 = -(f.2.2 * t.2.2.1) ∧ f.1 * (t.2.2.2 - t.1) = f.2.1 * t.2.2.1 := by
  obtain ⟨a, b, c⟩ := f; obtain ⟨p, q, r, s⟩ := t
  simp only [det] at hd
  simp only [mov, val, mid, Prod.mk.injEq] at e
  obtain ⟨e1, e2, _⟩ := e
  have k1 : 2 * q * (a * p * p + b * p * r + c * r * r) - p * (2 * a * p * q + b * (p * s + q * r) + 2 * c * r * s) = -(b * p + 2 * c * r) * (p * s - q * r) := by grind
  have k2 : 2 * s * (a * p * p + b * p * r + c * r * r) - r * (2 * a * p * q + b * (p * s + q * r) + 2 * c * r * s) = (2 * a * p + b * r) * (p * s - q * r) := by grind
  rw [e1, e2, hd] at k1 k2
  simp only
  constructor
  · have x1 : 2 * q * a - p * b = 2 * (a * q) - b * p := by grind
    have x2 : -(b * p + 2 * c * r) * 1 = -(b * p) - 2 * (c * r) := by grind
    omega
  · have x1 : 2 * s * a - r * b = 2 * (a * s) - b * r := by grind
    have x2 : (2 * a * p + b * r) * 1 = 2 * (a * p) + b * r := by grind
    have x3 : a * (s - p) = a * s - a * p := by grind
    omega
def pl (f : I3) : I3 := (f.1 / (g3 f : Int), f.2.1 / (g3 f : Int), f.2.2 / (g3 f : Int))
end My

namespace My
open PySem L2
theorem back_of_then {a b : I4} : backV (thenV a b) = thenV (backV b) (backV a) := by
  obtain ⟨a1, a2, a3, a4⟩ := a
  obtain ⟨b1, b2, b3, b4⟩ := b
  simp only [thenV, backV, Prod.mk.injEq]
  refine ⟨by grind, by grind, by grind, by grind⟩
theorem own_comm {f : I3} {t u : I4} (ha : f.1 ≠ 0) (dt : det t = 1) (et : mov f t = f) (du : det u = 1) (eu : mov f u = f) : thenV t u = thenV u t := by
  obtain ⟨h1, h2⟩ := own_eqs dt et
  obtain ⟨k1, k2⟩ := own_eqs du eu
  obtain ⟨a, b, c⟩ := f
  obtain ⟨p, q, r, s⟩ := t
  obtain ⟨x, y, z, w⟩ := u
  dsimp only at *
  have e1 : q * z = y * r := Int.eq_of_mul_eq_mul_left ha (by grind)
  have e2 : p * y + q * w = x * q + y * s := Int.eq_of_mul_eq_mul_left ha (by grind)
  have e3 : r * x + s * z = z * p + w * r := Int.eq_of_mul_eq_mul_left ha (by grind)
  simp only [thenV, Prod.mk.injEq]
  refine ⟨by grind, e2, e3, by grind⟩
def turningL (f : I3) : I4 := if f.1 = f.2.2 ∧ f.2.1 = 0 then (0, -1, 1, 0) else if f.1 = f.2.2 ∧ f.2.1 = f.1 then (0, -1, 1, 1) else (-1, 0, 0, -1)
def ownL (f : I3) : List I4 := if f.1 = f.2.2 ∧ f.2.1 = 0 then [(1, 0, 0, 1), (0, -1, 1, 0), (-1, 0, 0, -1), (0, 1, -1, 0)]
  else if f.1 = f.2.2 ∧ f.2.1 = f.1 then [(1, 0, 0, 1), (0, -1, 1, 1), (-1, -1, 1, 0), (-1, 0, 0, -1), (0, 1, -1, -1), (1, 1, -1, 0)] else [(1, 0, 0, 1), (-1, 0, 0, -1)]
theorem ownL_own {f : I3} {t : I4} (h : t ∈ ownL f) : det t = 1 ∧ mov f t = f := by
  obtain ⟨a, b, c⟩ := f
  unfold ownL at h
  dsimp only at h
  split at h
  · rename_i e
    obtain ⟨rfl, rfl⟩ := e
    simp only [List.mem_cons, List.not_mem_nil, or_false] at h
    rcases h with rfl | rfl | rfl | rfl <;> exact ⟨by decide, by simp only [mov, val, mid, Prod.mk.injEq]; refine ⟨by grind, by grind, by grind⟩⟩
  · split at h
    · rename_i e
      obtain ⟨rfl, rfl⟩ := e
      simp only [List.mem_cons, List.not_mem_nil, or_false] at h
      rcases h with rfl | rfl | rfl | rfl | rfl | rfl <;> exact ⟨by decide, by simp only [mov, val, mid, Prod.mk.injEq]; refine ⟨by grind, by grind, by grind⟩⟩
    · simp only [List.mem_cons, List.not_mem_nil, or_false] at h
      rcases h with rfl | rfl <;> exact ⟨by decide, by simp only [mov, val, mid, Prod.mk.injEq]; refine ⟨by grind, by grind, by grind⟩⟩
theorem ownL_bt {f : I3} {t : I4} (h : t ∈ ownL f) : B4 2 t := by
  unfold ownL at h
  split at h
  · simp only [List.mem_cons, List.not_mem_nil, or_false] at h
    rcases h with rfl | rfl | rfl | rfl <;> (unfold B4 Bt; decide)
  · split at h
    · simp only [List.mem_cons, List.not_mem_nil, or_false] at h
      rcases h with rfl | rfl | rfl | rfl | rfl | rfl <;> (unfold B4 Bt; decide)
    · simp only [List.mem_cons, List.not_mem_nil, or_false] at h
      rcases h with rfl | rfl <;> (unfold B4 Bt; decide)
theorem ownL_len (f : I3) : 2 ≤ (ownL f).length ∧ (ownL f).length ≤ 6 := by
  unfold ownL
  split
  · decide
  · split <;> decide
theorem ownL_walk (f : I3) : (ownL f)[0]? = some (1, 0, 0, 1) ∧ (ownL f)[1]? = some (turningL f) ∧ (∀ k, 0 < k → k < (ownL f).length → (ownL f)[k]? ≠ some (1, 0, 0, 1)) ∧
    ∀ k, 0 < k → k < (ownL f).length → ∀ t, (ownL f)[k]? = some t → (if k + 1 = (ownL f).length then some (1, 0, 0, 1) else (ownL f)[k + 1]?) = some (thenV t (turningL f)) := by
  unfold ownL turningL
  split
  · refine ⟨rfl, rfl, fun k h1 h2 => ?_, fun k h1 h2 t e => ?_⟩
    · have h2 : k < 4 := h2
      obtain rfl | rfl | rfl : k = 1 ∨ k = 2 ∨ k = 3 := by omega
      all_goals decide
    · have h2 : k < 4 := h2
      obtain rfl | rfl | rfl : k = 1 ∨ k = 2 ∨ k = 3 := by omega
      all_goals (cases e; decide)
  · split
    · refine ⟨rfl, rfl, fun k h1 h2 => ?_, fun k h1 h2 t e => ?_⟩
      · have h2 : k < 6 := h2
        obtain rfl | rfl | rfl | rfl | rfl : k = 1 ∨ k = 2 ∨ k = 3 ∨ k = 4 ∨ k = 5 := by omega
        all_goals decide
      · have h2 : k < 6 := h2
        obtain rfl | rfl | rfl | rfl | rfl : k = 1 ∨ k = 2 ∨ k = 3 ∨ k = 4 ∨ k = 5 := by omega
        all_goals (cases e; decide)
    · refine ⟨rfl, rfl, fun k h1 h2 => ?_, fun k h1 h2 t e => ?_⟩
      · have h2 : k < 2 := h2
        obtain rfl : k = 1 := by omega
        decide
      · have h2 : k < 2 := h2
        obtain rfl : k = 1 := by omega
        cases e
        decide
def r4 (t : I4) : List Int := [t.1, t.2.1, t.2.2.1, t.2.2.2]
theorem own_carry {g : I3} {T u : I4} (L : Least g) (dT : det T = 1) (du : det u = 1) (M : Least (mov (mov g T) u)) : mov (mov g T) u = g ∧ ∀ t ∈ ownL g, thenV (thenV u t) (backV u) = thenV (backV T) (thenV t T) := by
  have dv : det (thenV T u) = 1 := by rw [det_then, dT, du]; rfl
  have ev : mov g (thenV T u) = g := by
    rw [mov_then] at M
    exact L.one M dv
  refine ⟨by rw [mov_then]; exact ev, fun t ht => ?_⟩
  obtain ⟨dt, et⟩ := ownL_own ht
  have ha : g.1 ≠ 0 := by have := L.1; omega
  have hc := own_comm ha dv ev dt et
  have hu : u = thenV (backV T) (thenV T u) := by rw [← then_assoc, back_then dT, same_then]
  have hb : backV u = thenV (backV (thenV T u)) T := by
    rw [back_of_then, then_assoc, back_then dT, then_same]
  calc thenV (thenV u t) (backV u) = thenV (thenV (thenV (backV T) (thenV T u)) t) (thenV (backV (thenV T u)) T) := by rw [← hb, ← hu]
    _ = thenV (backV T) (thenV (thenV (thenV (thenV T u) t) (backV (thenV T u))) T) := by simp only [then_assoc]
    _ = thenV (backV T) (thenV (thenV (thenV t (thenV T u)) (backV (thenV T u))) T) := by rw [hc]
    _ = thenV (backV T) (thenV t T) := by rw [then_assoc (t := t), then_back dv, then_same]
end My




namespace My
open PySem L2
/-! the reading of a body over data, by computation -/
local macro_rules | `(tactic| walk_at "rd1") => `(tactic| dsimp only [dRet, dRetN, dSeq, dNext, dIf, dNever, dDrop, dAsg, dgName, dgTup, dgLst, dSetC, dgNil, dgCons, dPar2, dPar3, dAugI, dIn, dOp, dUn, dVar, dC, dIx, ixt0, ixt1, ixt2, ixt3, ixl0, ixl1, ixl2, ixl3, dAdd, dSub, dMul, dMod, dDiv, dPow, dShl, dShr, dI, dI0, dB0, dLt, dLe, dGt, dGe, dEq, dNe, dIs, dNot, dAnd, dOr, dNeg, dTst, dTNot, dTAnd, dTOr, dIfE, dNil, dCons, dTup, dLst, dCall, dCB, dLen, dAbs, dMax, dMin, dInt1, dIsi, dSlice, dNoPart, dPart, dChain, dChain3, dTrue, inner, diSeq, diTup, diRng1, diRng2, diRng3, dBits, dOf, dLstF, dSliceF, dCatF, dCallV, dQuiet, dNextX, dSeqX, dIfX, dDropX, dRetX, dAsgX, dCallX, dRaise, dTry, xcatch, dIsx, dIsxs, dIsv, dXfld, dCalm, dOwn, dIxO, dSetO, dAppO, dFrz, dLenO, ownAt, dCatT, dFresh, dLendT, dCopyO, dConsX, dCallA, dClrO, dSortT, dValF, 
  List.length_cons, List.length_nil, List.getElem?_cons_zero, List.getElem?_cons_succ, List.set_cons_zero, List.set_cons_succ, Nat.reduceAdd, List.map_cons, List.map_nil, Option.join_some])
local macro_rules | `(tactic| walk_at "rd2") => `(tactic| simp only [isB_t, isB_f, isB_i, isB_n, isB_tu, isB_l, isN_n, isN_i, isN_b, isN_t, isN_l, nf_i, nf_b, nf_n, nf_t, nf_l, nf_s, isT_tt, isT_ll, isT_ii, isT_bi, isT_ib, isT_bb, isT_tn, isT_in, isT_it, isT_bt, eq_ii, eq_bb, eq_ss, eq_nn, eq_ni, eq_nt, eq_tn, eq_tt, eq_ll, eqs_nn, eqs_cc, eqs_nc, eqs_cn, flat_i, flat_b, flat_n, flat_t8, flat_l8, flat_t7, flat_l7, flat_t6, flats_n, flats_c, if_true, if_false, Bool.and_true, Bool.true_and, Bool.false_and, Bool.and_false, Bool.not_true, Bool.not_false, Bool.false_eq_true, true_and, and_true, ite_true, ite_false, List.length_map])
local macro_rules | `(tactic| walk_at "rd") => `(tactic| ((try walk_at "rd1"); (try walk_at "rd2")))
local macro_rules | `(tactic| walk_at "go") => `(tactic| ((try simp only [dstart_c, dstart_n, dstart_e]); walk_at "rd"))
/-! sizes -/
local macro_rules | `(tactic| walk_at "bts") => `(tactic| first | assumption | (with_reducible apply Bt.mul <;> walk_at "bts") | (with_reducible apply Bt.add <;> walk_at "bts") | (with_reducible apply Bt.sub <;> walk_at "bts") | (with_reducible apply Bt.neg <;> walk_at "bts") | exact Bt.of_abs (n := 1) (by decide) | exact Bt.of_abs (n := 8) (by decide) | exact Bt.of_abs (n := 400) (by decide))
local macro_rules | `(tactic| walk_at "bt") => `(tactic| exact Bt.le (by walk_at "bts") (by decide))
local macro_rules | `(tactic| walk_at "mul") => `(tactic| exact Bt.mulOk (by walk_at "bts") (by walk_at "bts") (by decide) (by decide))
local macro_rules | `(tactic| walk_at "muls") => `(tactic| repeat (refine ⟨by first | walk_at "mul" | exact size_ok (by decide) | decide | exact ⟨by decide, by decide⟩, ?_⟩))

def top (i : Nat) : Stmt := PySem.Challenge.pw_formcycle_k14_own_turns.main.body.getD i (.Pass ⟨0, 0, 0, 0⟩)
abbrev s_root : Stmt := top 6
theorem sc_root : FnScope ["number", "guess", "better"] ["number"] (defScope s_root) := ⟨rfl, rfl, rfl, by decide +kernel, rfl, by decide +kernel, by decide +kernel⟩
abbrev s_is_square : Stmt := top 7
theorem sc_is_square : FnScope ["number", "side"] ["number"] (defScope s_is_square) := ⟨rfl, rfl, rfl, by decide +kernel, rfl, by decide +kernel, by decide +kernel⟩
abbrev s_is_turn : Stmt := top 10
theorem sc_is_turn : FnScope ["turn"] ["turn"] (defScope s_is_turn) := ⟨rfl, rfl, rfl, by decide +kernel, rfl, by decide +kernel, by decide +kernel⟩
abbrev s_check_turn : Stmt := top 11
theorem sc_check_turn : FnScope ["turn"] ["turn"] (defScope s_check_turn) := ⟨rfl, rfl, rfl, by decide +kernel, rfl, by decide +kernel, by decide +kernel⟩
abbrev s_put_behind : Stmt := top 12
theorem sc_put_behind : FnScope ["one", "other"] ["one", "other"] (defScope s_put_behind) := ⟨rfl, rfl, rfl, by decide +kernel, rfl, by decide +kernel, by decide +kernel⟩
abbrev s_back : Stmt := top 13
theorem sc_back : FnScope ["turn"] ["turn"] (defScope s_back) := ⟨rfl, rfl, rfl, by decide +kernel, rfl, by decide +kernel, by decide +kernel⟩
abbrev s_measure : Stmt := top 15
theorem sc_measure : FnScope ["form"] ["form"] (defScope s_measure) := ⟨rfl, rfl, rfl, by decide +kernel, rfl, by decide +kernel, by decide +kernel⟩
abbrev s_value : Stmt := top 16
theorem sc_value : FnScope ["form", "point", "x", "y"] ["form", "point"] (defScope s_value) := ⟨rfl, rfl, rfl, by decide +kernel, rfl, by decide +kernel, by decide +kernel⟩
abbrev s_moved : Stmt := top 17
theorem sc_moved : FnScope ["form", "turn", "left", "right"] ["form", "turn"] (defScope s_moved) := ⟨rfl, rfl, rfl, by decide +kernel, rfl, by decide +kernel, by decide +kernel⟩
abbrev s_middle : Stmt := top 18
theorem sc_middle : FnScope ["form", "left", "right", "crossed"] ["form", "left", "right"] (defScope s_middle) := ⟨rfl, rfl, rfl, by decide +kernel, rfl, by decide +kernel, by decide +kernel⟩
abbrev s_shape : Stmt := top 19
theorem sc_shape : FnScope ["form", "number"] ["form"] (defScope s_shape) := ⟨rfl, rfl, rfl, by decide +kernel, rfl, by decide +kernel, by decide +kernel⟩
abbrev s_check_bowl : Stmt := top 21
theorem sc_check_bowl : FnScope ["form"] ["form"] (defScope s_check_bowl) := ⟨rfl, rfl, rfl, by decide +kernel, rfl, by decide +kernel, by decide +kernel⟩
abbrev s_stands_least : Stmt := top 22
theorem sc_stands_least : FnScope ["form", "a", "b", "c"] ["form"] (defScope s_stands_least) := ⟨rfl, rfl, rfl, by decide +kernel, rfl, by decide +kernel, by decide +kernel⟩
abbrev s_settled : Stmt := top 23
theorem sc_settled : FnScope ["form", "turn", "lowering"] ["form"] (defScope s_settled) := ⟨rfl, rfl, rfl, by decide +kernel, rfl, by decide +kernel, by decide +kernel⟩
abbrev s_turn_lower : Stmt := top 24
theorem sc_turn_lower : FnScope ["form", "often"] ["form"] (defScope s_turn_lower) := ⟨rfl, rfl, rfl, by decide +kernel, rfl, by decide +kernel, by decide +kernel⟩
abbrev s_own_turns : Stmt := top 25
theorem sc_own_turns : FnScope ["form", "lowest", "there", "home"] ["form"] (defScope s_own_turns) := ⟨rfl, rfl, rfl, by decide +kernel, rfl, by decide +kernel, by decide +kernel⟩
abbrev s_turns_of_least : Stmt := top 26
theorem sc_turns_of_least : FnScope ["form", "turning", "turns", "came"] ["form"] (defScope s_turns_of_least) := ⟨rfl, rfl, rfl, by decide +kernel, rfl, by decide +kernel, by decide +kernel⟩
abbrev s_turning_of_least : Stmt := top 27
theorem sc_turning_of_least : FnScope ["form"] ["form"] (defScope s_turning_of_least) := ⟨rfl, rfl, rfl, by decide +kernel, rfl, by decide +kernel, by decide +kernel⟩
abbrev s__law_cell : Stmt := top 29
theorem sc__law_cell : FnScope ["_law_script", "_law_k"] ["_law_script", "_law_k"] (defScope s__law_cell) := ⟨rfl, rfl, rfl, by decide +kernel, rfl, by decide +kernel, by decide +kernel⟩
abbrev s__law_wholes : Stmt := top 30
theorem sc__law_wholes : FnScope ["_law_found", "_law_many"] ["_law_found", "_law_many"] (defScope s__law_wholes) := ⟨rfl, rfl, rfl, by decide +kernel, rfl, by decide +kernel, by decide +kernel⟩
abbrev s__law_number : Stmt := top 31
theorem sc__law_number : FnScope ["_law_cell_here"] ["_law_cell_here"] (defScope s__law_number) := ⟨rfl, rfl, rfl, by decide +kernel, rfl, by decide +kernel, by decide +kernel⟩
abbrev s__law_least : Stmt := top 32
theorem sc__law_least : FnScope ["_law_cells", "_law_a", "_law_b", "_law_c", "_law_kind"] ["_law_cells"] (defScope s__law_least) := ⟨rfl, rfl, rfl, by decide +kernel, rfl, by decide +kernel, by decide +kernel⟩
abbrev s__law_turn : Stmt := top 33
theorem sc__law_turn : FnScope ["_law_first", "_law_cells", "_law_p", "_law_q", "_law_r", "_law_s", "_law_cell_here", "_law_k"] ["_law_first", "_law_cells"] (defScope s__law_turn) := ⟨rfl, rfl, rfl, by decide +kernel, rfl, by decide +kernel, by decide +kernel⟩
abbrev s__law_value : Stmt := top 34
theorem sc__law_value : FnScope ["_law_form", "_law_x", "_law_y", "_law_a", "_law_b", "_law_c"] ["_law_form", "_law_x", "_law_y"] (defScope s__law_value) := ⟨rfl, rfl, rfl, by decide +kernel, rfl, by decide +kernel, by decide +kernel⟩
abbrev s__law_moved : Stmt := top 35
theorem sc__law_moved : FnScope ["_law_form", "_law_turn_here", "_law_p", "_law_q", "_law_r", "_law_s", "_law_middle"] ["_law_form", "_law_turn_here"] (defScope s__law_moved) := ⟨rfl, rfl, rfl, by decide +kernel, rfl, by decide +kernel, by decide +kernel⟩
abbrev s__law_then : Stmt := top 36
theorem sc__law_then : FnScope ["_law_one", "_law_other", "_law_p", "_law_q", "_law_r", "_law_s", "_law_t", "_law_u", "_law_v", "_law_w"] ["_law_one", "_law_other"] (defScope s__law_then) := ⟨rfl, rfl, rfl, by decide +kernel, rfl, by decide +kernel, by decide +kernel⟩
abbrev s__law_owns : Stmt := top 37
theorem sc__law_owns : FnScope ["_law_least_here", "_law_a", "_law_b", "_law_c", "_law_owns_here"] ["_law_least_here"] (defScope s__law_owns) := ⟨rfl, rfl, rfl, by decide +kernel, rfl, by decide +kernel, by decide +kernel⟩
abbrev s__law_good : Stmt := top 38
theorem sc__law_good : FnScope ["_law_form", "_law_due", "_law_found"] ["_law_form", "_law_due"] (defScope s__law_good) := ⟨rfl, rfl, rfl, by decide +kernel, rfl, by decide +kernel, by decide +kernel⟩
abbrev s_law : Stmt := top 39
theorem sc_law : FnScope ["_law_script", "_law_least_here", "_law_first", "_law_turn_here", "_law_way", "_law_owns_here", "_law_due"] ["_law_script"] (defScope s_law) := ⟨rfl, rfl, rfl, by decide +kernel, rfl, by decide +kernel, by decide +kernel⟩
structure Txt (K : PySem.W.Frag) (mg : Str → Option Value) : Prop where
  t_root : ∃ f fd, FnT K mg "root" s_root ["number"] f fd
  t_is_square : ∃ f fd, FnT K mg "is_square" s_is_square ["number"] f fd
  t_is_turn : ∃ f fd, FnT K mg "is_turn" s_is_turn ["turn"] f fd
  t_check_turn : ∃ f fd, FnT K mg "check_turn" s_check_turn ["turn"] f fd
  t_put_behind : ∃ f fd, FnT K mg "put_behind" s_put_behind ["one", "other"] f fd
  t_back : ∃ f fd, FnT K mg "back" s_back ["turn"] f fd
  t_measure : ∃ f fd, FnT K mg "measure" s_measure ["form"] f fd
  t_value : ∃ f fd, FnT K mg "value" s_value ["form", "point"] f fd
  t_moved : ∃ f fd, FnT K mg "moved" s_moved ["form", "turn"] f fd
  t_middle : ∃ f fd, FnT K mg "middle" s_middle ["form", "left", "right"] f fd
  t_shape : ∃ f fd, FnT K mg "shape" s_shape ["form"] f fd
  t_check_bowl : ∃ f fd, FnT K mg "check_bowl" s_check_bowl ["form"] f fd
  t_stands_least : ∃ f fd, FnT K mg "stands_least" s_stands_least ["form"] f fd
  t_settled : ∃ f fd, FnT K mg "settled" s_settled ["form"] f fd
  t_turn_lower : ∃ f fd, FnT K mg "turn_lower" s_turn_lower ["form"] f fd
  t_own_turns : ∃ f fd, FnT K mg "own_turns" s_own_turns ["form"] f fd
  t_turns_of_least : ∃ f fd, FnT K mg "turns_of_least" s_turns_of_least ["form"] f fd
  t_turning_of_least : ∃ f fd, FnT K mg "turning_of_least" s_turning_of_least ["form"] f fd
  t__law_cell : ∃ f fd, FnT K mg "_law_cell" s__law_cell ["_law_script", "_law_k"] f fd
  t__law_wholes : ∃ f fd, FnT K mg "_law_wholes" s__law_wholes ["_law_found", "_law_many"] f fd
  t__law_number : ∃ f fd, FnT K mg "_law_number" s__law_number ["_law_cell_here"] f fd
  t__law_least : ∃ f fd, FnT K mg "_law_least" s__law_least ["_law_cells"] f fd
  t__law_turn : ∃ f fd, FnT K mg "_law_turn" s__law_turn ["_law_first", "_law_cells"] f fd
  t__law_value : ∃ f fd, FnT K mg "_law_value" s__law_value ["_law_form", "_law_x", "_law_y"] f fd
  t__law_moved : ∃ f fd, FnT K mg "_law_moved" s__law_moved ["_law_form", "_law_turn_here"] f fd
  t__law_then : ∃ f fd, FnT K mg "_law_then" s__law_then ["_law_one", "_law_other"] f fd
  t__law_owns : ∃ f fd, FnT K mg "_law_owns" s__law_owns ["_law_least_here"] f fd
  t__law_good : ∃ f fd, FnT K mg "_law_good" s__law_good ["_law_form", "_law_due"] f fd
  t_law : ∃ f fd, FnT K mg "law" s_law ["_law_script"] f fd
  z_abs : mg "abs" = none
  z_bool : mg "bool" = none
  z_int : mg "int" = none
  z_isinstance : mg "isinstance" = none
  z_len : mg "len" = none
  z_list : mg "list" = none
  z_range : mg "range" = none
  z_sorted : mg "sorted" = none
  z_tuple : mg "tuple" = none
  k_SAME : ∃ a, mg "SAME" = some (.ref a) ∧ ∀ H, Rp K H (.tup [.int (1), .int (0), .int (0), .int (1)]) (.ref a)
abbrev sp_is_turn : DSp := specF (fun t : I4 => [t4 t]) (B4 5000) fun t => .bl (decide (det t = 1))
abbrev sp_check_turn : DSp := specF (fun t : I4 => [t4 t]) (fun t => B4 5000 t ∧ det t = 1) fun _ => .non
abbrev sp_led : DSp := specF (fun p : I4 × I2 => [t4 p.1, t2 p.2]) (fun p => B4 5000 p.1 ∧ det p.1 = 1 ∧ B2 20000 p.2) fun p => t2 (ledV p.1 p.2)
abbrev sp_put_behind : DSp := specF (fun p : I4 × I4 => [t4 p.1, t4 p.2]) (fun p => B4 400000 p.1 ∧ B4 400000 p.2) fun p => t4 (thenV p.1 p.2)
abbrev sp_then : DSp := specF (fun p : I4 × I4 => [t4 p.1, t4 p.2]) (fun p => B4 5000 p.1 ∧ B4 5000 p.2 ∧ det p.1 = 1 ∧ det p.2 = 1) fun p => t4 (thenV p.1 p.2)
abbrev sp_back : DSp := specF (fun t : I4 => [t4 t]) (fun t => B4 5000 t ∧ det t = 1) fun t => t4 (backV t)
theorem ok_is_turn {P : Program} {w : World} {K : PySem.W.Frag} {mg : Str → Option Value} {base : Heap} (T : Txt K mg)
    : Pm P w K mg base 1 "is_turn" s_is_turn ["turn"] sp_is_turn := by
  obtain ⟨f, fd, F⟩ := T.t_is_turn
  refine ⟨f, fd, F, F.fn.okD sc_is_turn (fun ds Q ⟨p, e, _⟩ => by rw [e]; rfl) fun cdv A outer s H E hr => ⟨_, (dss_one (ds_ret (de_eq hr.units (de_sub (de_mul (de_sub_ix (dv 0) de_int) (de_sub_ix (dv 0) de_int)) (de_mul (de_sub_ix (dv 0) de_int) (de_sub_ix (dv 0) de_int))) de_int))), fun ds Q h => ?_⟩⟩
  obtain ⟨⟨a, b, c, d⟩, rfl, ⟨ha, hb, hc, hd⟩, q⟩ := h
  walk_at "go"
  exact ⟨by walk_at "mul", by walk_at "mul", q _ rfl⟩
theorem ok_check_turn {P : Program} {w : World} {K : PySem.W.Frag} {mg : Str → Option Value} {base : Heap} (T : Txt K mg)
    (G_is_turn : Pm P w K mg base 1 "is_turn" s_is_turn ["turn"] sp_is_turn)
    : Pm P w K mg base 2 "check_turn" s_check_turn ["turn"] sp_check_turn := by
  obtain ⟨f, fd, F⟩ := T.t_check_turn
  refine ⟨f, fd, F, F.fn.okD sc_check_turn (fun ds Q ⟨p, e, _⟩ => by rw [e]; rfl) fun cdv A outer s H E hr => ⟨_, (dss_one (ds_if (dt_not (dt_val (de_callP spec_mono G_is_turn (hr.mono (by decide)) rfl (da_cons (dv 0) da_nil)))) (dss_one ds_never) dss_nil)), fun ds Q h => ?_⟩⟩
  obtain ⟨t, rfl, ⟨hb, hd⟩, q⟩ := h
  walk_at "go"
  refine specF_of t hb ?_
  walk_at "rd"
  rw [decide_eq_true hd]
  exact q _ rfl
theorem ok_put_behind {P : Program} {w : World} {K : PySem.W.Frag} {mg : Str → Option Value} {base : Heap} (T : Txt K mg)
    : Pm P w K mg base 1 "put_behind" s_put_behind ["one", "other"] sp_put_behind := by
  obtain ⟨f, fd, F⟩ := T.t_put_behind
  refine ⟨f, fd, F, F.fn.okD sc_put_behind (fun ds Q ⟨p, e, _⟩ => by rw [e]; rfl) fun cdv A outer s H E hr => ⟨_, (dss_one (ds_ret (de_tup (da_cons (de_add (de_mul (de_sub_ix (dv 0) de_int) (de_sub_ix (dv 1) de_int)) (de_mul (de_sub_ix (dv 0) de_int) (de_sub_ix (dv 1) de_int))) (da_cons (de_add (de_mul (de_sub_ix (dv 0) de_int) (de_sub_ix (dv 1) de_int)) (de_mul (de_sub_ix (dv 0) de_int) (de_sub_ix (dv 1) de_int))) (da_cons (de_add (de_mul (de_sub_ix (dv 0) de_int) (de_sub_ix (dv 1) de_int)) (de_mul (de_sub_ix (dv 0) de_int) (de_sub_ix (dv 1) de_int))) (da_cons (de_add (de_mul (de_sub_ix (dv 0) de_int) (de_sub_ix (dv 1) de_int)) (de_mul (de_sub_ix (dv 0) de_int) (de_sub_ix (dv 1) de_int))) da_nil))))))), fun ds Q h => ?_⟩⟩
  obtain ⟨⟨⟨a, b, c, d⟩, e, f, g, i⟩, rfl, ⟨⟨ha, hb, hc, hd⟩, he, hf, hg, hi⟩, q⟩ := h
  walk_at "go"
  exact ⟨by walk_at "mul", by walk_at "mul", by walk_at "mul", by walk_at "mul", by walk_at "mul", by walk_at "mul", by walk_at "mul", by walk_at "mul", size_ok (by decide), q _ rfl⟩
theorem ok_back {P : Program} {w : World} {K : PySem.W.Frag} {mg : Str → Option Value} {base : Heap} (T : Txt K mg)
    (G_check_turn : Pm P w K mg base 2 "check_turn" s_check_turn ["turn"] sp_check_turn)
    : Pm P w K mg base 3 "back" s_back ["turn"] sp_back := by
  obtain ⟨f, fd, F⟩ := T.t_back
  refine ⟨f, fd, F, F.fn.okD sc_back (fun ds Q ⟨p, e, _⟩ => by rw [e]; rfl) fun cdv A outer s H E hr => ⟨_, (dss_cons (ds_expr (de_callP spec_mono G_check_turn (hr.mono (by decide)) rfl (da_cons (dv 0) da_nil))) (dss_one (ds_ret (de_tup (da_cons (de_sub_ix (dv 0) de_int) (da_cons (de_neg (de_sub_ix (dv 0) de_int)) (da_cons (de_neg (de_sub_ix (dv 0) de_int)) (da_cons (de_sub_ix (dv 0) de_int) da_nil)))))))), fun ds Q h => ?_⟩⟩
  obtain ⟨⟨a, b, c, d⟩, rfl, ⟨hb, hd⟩, q⟩ := h
  walk_at "go"
  refine specF_of (a, b, c, d) ⟨hb, hd⟩ ?_
  exact ⟨size_ok (by decide), q _ rfl⟩

theorem ok_root {P : Program} {w : World} {K : PySem.W.Frag} {mg : Str → Option Value} {base : Heap} (T : Txt K mg)
    : Pm P w K mg base 1 "root" s_root ["number"] sp_root := by
  obtain ⟨f, fd, F⟩ := T.t_root
  refine ⟨f, fd, F, F.fn.okD sc_root (fun ds Q ⟨p, e, _⟩ => by rw [e]; rfl) fun cdv A outer s H E hr => ⟨_, (dss_cons (ds_if (dt_lt (dv 0) de_int) (dss_one ds_never) dss_nil) (dss_cons (ds_if (dt_eq hr.units (dv 0) de_int) (dss_one (ds_ret de_int)) dss_nil) (dss_cons (ds_set 1 sc_root.nd (de_shl de_int (de_div (de_add (de_bits (dv 0)) de_int) de_int))) (dss_cons (ds_set 2 sc_root.nd (de_div (de_add (dv 1) (de_div (dv 0) (dv 1))) de_int)) (dss_cons (ds_while PassesOwn.never (dt_lt (dv 2) (dv 1)) (dss_cons (ds_set 1 sc_root.nd (dv 2)) (dss_one (ds_set 2 sc_root.nd (de_div (de_add (dv 1) (de_div (dv 0) (dv 1))) de_int))))) (dss_one (ds_ret (dv 1)))))))), fun ds Q h => ?_⟩⟩
  obtain ⟨n, rfl, ⟨h0, hb⟩, q⟩ := h
  walk_at "go"
  refine iff' (decide_eq_false (by omega)) ?_
  by_cases hz : n = 0
  · subst hz
    exact ift rfl (q _ ⟨0, rfl, ⟨by omega, by omega, by omega⟩, Bt.zero.le (by decide)⟩)
  refine iff' (decide_eq_false hz) ?_
  obtain ⟨c1, c2, c3⟩ := start_small hb
  have hu := start_up h0
  refine ⟨⟨by decide, by decide⟩, c1, ?_⟩
  generalize (1 * 2 ^ ((((Builtin.Int.intBits n : Nat) : Int) + 1).fdiv 2).toNat : Int) = g at *
  refine ⟨Bt.divOk c2 (by omega), ⟨by decide, by decide⟩, ?_⟩
  rw [near_eq c3]
  refine while_of (fun m ρ => ∃ g : Int, ρ = [some (.is (.int n)), some (.is (.int g)), some (.is (.int ((g + n / g) / 2)))] ∧ 0 < g ∧ Bt 2001 g ∧ n < (g + 1) * (g + 1) ∧ m = g.toNat) _ ⟨g, rfl, c3, c2, hu, rfl⟩ ?_
  rintro m _ ⟨g, rfl, hg, hgb, hgu, rfl⟩
  walk_at "rd"
  refine ite2 (fun hw => ?_) (fun hw => ?_)
  · have hw := of_decide_eq_true hw
    have hp := newton_pos (show 1 ≤ n by omega) hg
    have hu' := newton_up h0 hg
    have hbb : Bt 2001 ((g + n / g) / 2) := by unfold Bt at *; omega
    generalize (g + n / g) / 2 = b at *
    refine ⟨Bt.divOk hbb (by omega), ⟨by decide, by decide⟩, ?_⟩
    rw [near_eq hp]
    exact ⟨_, by omega, b, rfl, hp, hbb, hu', rfl⟩
  · have hw : ¬ (g + n / g) / 2 < g := fun z => hw (decide_eq_true z)
    exact q _ ⟨g, rfl, ⟨by omega, newton_end hg (by omega), hgu⟩, hgb⟩
theorem ok_is_square {P : Program} {w : World} {K : PySem.W.Frag} {mg : Str → Option Value} {base : Heap} (T : Txt K mg)
    (G_root : Pm P w K mg base 1 "root" s_root ["number"] sp_root)
    : Pm P w K mg base 2 "is_square" s_is_square ["number"] sp_is_square := by
  obtain ⟨f, fd, F⟩ := T.t_is_square
  refine ⟨f, fd, F, F.fn.okD sc_is_square (fun ds Q ⟨p, e, _⟩ => by rw [e]; rfl) fun cdv A outer s H E hr => ⟨_, (dss_cons (ds_if (dt_lt (dv 0) de_int) (dss_one (ds_ret de_bl)) dss_nil) (dss_cons (ds_set 1 sc_is_square.nd (de_callP spec_mono G_root (hr.mono (by decide)) rfl (da_cons (dv 0) da_nil))) (dss_one (ds_ret (de_eq hr.units (de_mul (dv 1) (dv 1)) (dv 0)))))), fun ds Q h => ?_⟩⟩
  obtain ⟨n, rfl, hb, q⟩ := h
  walk_at "go"
  refine ite2 (fun hw => ?_) (fun hw => ?_)
  · have hw := of_decide_eq_true hw
    exact q _ ⟨false, rfl, by simp [isSq_neg hw]⟩
  · have hw : ¬ n < 0 := fun z => hw (decide_eq_true z)
    refine spec_of n ⟨by omega, hb⟩ ?_
    rintro _ ⟨r, rfl, hs, hr'⟩
    walk_at "rd"
    refine ⟨by walk_at "mul", q _ ⟨_, rfl, ?_⟩⟩
    rw [isSq_iff hs]; simp

abbrev sp_measure : DSp := specF (fun f : I3 => [t3 f]) (B3 20000) fun f => .int (meas f)
abbrev sp_value : DSp := specF (fun p : I3 × I2 => [t3 p.1, t2 p.2]) (fun p => B3 20000 p.1 ∧ B2 20000 p.2) fun p => .int (val p.1 p.2)
abbrev sp_middle : DSp := specF (fun p : I3 × I2 × I2 => [t3 p.1, t2 p.2.1, t2 p.2.2]) (fun p => B3 20000 p.1 ∧ B2 20000 p.2.1 ∧ B2 20000 p.2.2) fun p => .int (mid p.1 p.2.1 p.2.2)
abbrev sp_moved : DSp := specF (fun p : I3 × I4 => [t3 p.1, t4 p.2]) (fun p => B3 20000 p.1 ∧ B4 5000 p.2 ∧ det p.2 = 1) fun p => t3 (mov p.1 p.2)
theorem ok_measure {P : Program} {w : World} {K : PySem.W.Frag} {mg : Str → Option Value} {base : Heap} (T : Txt K mg)
    : Pm P w K mg base 1 "measure" s_measure ["form"] sp_measure := by
  obtain ⟨f, fd, F⟩ := T.t_measure
  refine ⟨f, fd, F, F.fn.okD sc_measure (fun ds Q ⟨p, e, _⟩ => by rw [e]; rfl) fun cdv A outer s H E hr => ⟨_, (dss_one (ds_ret (de_sub (de_mul (de_sub_ix (dv 0) de_int) (de_sub_ix (dv 0) de_int)) (de_mul (de_mul de_int (de_sub_ix (dv 0) de_int)) (de_sub_ix (dv 0) de_int))))), fun ds Q h => ?_⟩⟩
  obtain ⟨⟨a, b, c⟩, rfl, ⟨ha, hb, hc⟩, q⟩ := h
  walk_at "go"
  have h2 : Bt 3 4 := Bt.of_abs (by decide)
  exact ⟨by walk_at "mul", by walk_at "mul", by walk_at "mul", q _ rfl⟩
theorem ok_value {P : Program} {w : World} {K : PySem.W.Frag} {mg : Str → Option Value} {base : Heap} (T : Txt K mg)
    : Pm P w K mg base 1 "value" s_value ["form", "point"] sp_value := by
  obtain ⟨f, fd, F⟩ := T.t_value
  refine ⟨f, fd, F, F.fn.okD sc_value (fun ds Q ⟨p, e, _⟩ => by rw [e]; rfl) fun cdv A outer s H E hr => ⟨_, (dss_cons (ds_set 2 sc_value.nd (de_sub_ix (dv 1) de_int)) (dss_cons (ds_set 3 sc_value.nd (de_sub_ix (dv 1) de_int)) (dss_one (ds_ret (de_add (de_add (de_mul (de_mul (de_sub_ix (dv 0) de_int) (dv 2)) (dv 2)) (de_mul (de_mul (de_sub_ix (dv 0) de_int) (dv 2)) (dv 3))) (de_mul (de_mul (de_sub_ix (dv 0) de_int) (dv 3)) (dv 3))))))), fun ds Q h => ?_⟩⟩
  obtain ⟨⟨⟨a, b, c⟩, x, y⟩, rfl, ⟨⟨ha, hb, hc⟩, hx, hy⟩, q⟩ := h
  walk_at "go"
  exact ⟨by walk_at "mul", by walk_at "mul", by walk_at "mul", by walk_at "mul", by walk_at "mul", by walk_at "mul", q _ rfl⟩
theorem ok_middle {P : Program} {w : World} {K : PySem.W.Frag} {mg : Str → Option Value} {base : Heap} (T : Txt K mg)
    : Pm P w K mg base 1 "middle" s_middle ["form", "left", "right"] sp_middle := by
  obtain ⟨f, fd, F⟩ := T.t_middle
  refine ⟨f, fd, F, F.fn.okD sc_middle (fun ds Q ⟨p, e, _⟩ => by rw [e]; rfl) fun cdv A outer s H E hr => ⟨_, (dss_cons (ds_set 3 sc_middle.nd (de_add (de_mul (de_sub_ix (dv 1) de_int) (de_sub_ix (dv 2) de_int)) (de_mul (de_sub_ix (dv 2) de_int) (de_sub_ix (dv 1) de_int)))) (dss_one (ds_ret (de_add (de_add (de_mul (de_mul (de_mul de_int (de_sub_ix (dv 0) de_int)) (de_sub_ix (dv 1) de_int)) (de_sub_ix (dv 2) de_int)) (de_mul (de_sub_ix (dv 0) de_int) (dv 3))) (de_mul (de_mul (de_mul de_int (de_sub_ix (dv 0) de_int)) (de_sub_ix (dv 1) de_int)) (de_sub_ix (dv 2) de_int)))))), fun ds Q h => ?_⟩⟩
  obtain ⟨⟨⟨a, b, c⟩, ⟨x, y⟩, u, v⟩, rfl, ⟨⟨ha, hb, hc⟩, ⟨hx, hy⟩, hu, hv⟩, q⟩ := h
  walk_at "go"
  have h2 : Bt 2 2 := Bt.of_abs (by decide)
  walk_at "muls"
  exact q _ rfl
theorem ok_moved {P : Program} {w : World} {K : PySem.W.Frag} {mg : Str → Option Value} {base : Heap} (T : Txt K mg)
    (G_check_turn : Pm P w K mg base 2 "check_turn" s_check_turn ["turn"] sp_check_turn)
    (G_value : Pm P w K mg base 1 "value" s_value ["form", "point"] sp_value)
    (G_middle : Pm P w K mg base 1 "middle" s_middle ["form", "left", "right"] sp_middle)
    : Pm P w K mg base 3 "moved" s_moved ["form", "turn"] sp_moved := by
  obtain ⟨f, fd, F⟩ := T.t_moved
  refine ⟨f, fd, F, F.fn.okD sc_moved (fun ds Q ⟨p, e, _⟩ => by rw [e]; rfl) fun cdv A outer s H E hr => ⟨_, (dss_cons (ds_expr (de_callP spec_mono G_check_turn (hr.mono (by decide)) rfl (da_cons (dv 1) da_nil))) (dss_cons (ds_set 2 sc_moved.nd (de_tup (da_cons (de_sub_ix (dv 1) de_int) (da_cons (de_sub_ix (dv 1) de_int) da_nil)))) (dss_cons (ds_set 3 sc_moved.nd (de_tup (da_cons (de_sub_ix (dv 1) de_int) (da_cons (de_sub_ix (dv 1) de_int) da_nil)))) (dss_one (ds_ret (de_tup (da_cons (de_callP spec_mono G_value (hr.mono (by decide)) rfl (da_cons (dv 0) (da_cons (dv 2) da_nil))) (da_cons (de_callP spec_mono G_middle (hr.mono (by decide)) rfl (da_cons (dv 0) (da_cons (dv 2) (da_cons (dv 3) da_nil)))) (da_cons (de_callP spec_mono G_value (hr.mono (by decide)) rfl (da_cons (dv 0) (da_cons (dv 3) da_nil))) da_nil))))))))), fun ds Q h => ?_⟩⟩
  obtain ⟨⟨f, t⟩, rfl, ⟨hf, ht, hd⟩, q⟩ := h
  walk_at "go"
  have hl : B2 20000 (t.1, t.2.2.1) := ⟨ht.1.le (by decide), ht.2.2.1.le (by decide)⟩
  have hr' : B2 20000 (t.2.1, t.2.2.2) := ⟨ht.2.1.le (by decide), ht.2.2.2.le (by decide)⟩
  refine specF_of t ⟨ht, hd⟩ ⟨size_ok (by decide), size_ok (by decide), ?_⟩
  refine specF_of (f, (t.1, t.2.2.1)) ⟨hf, hl⟩ ?_
  refine specF_of (f, (t.1, t.2.2.1), (t.2.1, t.2.2.2)) ⟨hf, hl, hr'⟩ ?_
  refine specF_of (f, (t.2.1, t.2.2.2)) ⟨hf, hr'⟩ ⟨size_ok (by decide), ?_⟩
  exact q _ rfl

abbrev sp_shape : DSp := spec (fun f : I3 => [t3 f]) (fun f => B3 1500 f) Word
theorem ok_shape {P : Program} {w : World} {K : PySem.W.Frag} {mg : Str → Option Value} {base : Heap} (T : Txt K mg)
    (G_measure : Pm P w K mg base 1 "measure" s_measure ["form"] sp_measure)
    (G_is_square : Pm P w K mg base 2 "is_square" s_is_square ["number"] sp_is_square)
    : Pm P w K mg base 3 "shape" s_shape ["form"] sp_shape := by
  obtain ⟨f, fd, F⟩ := T.t_shape
  refine ⟨f, fd, F, F.fn.okD sc_shape (fun ds Q ⟨p, e, _⟩ => by rw [e]; rfl) fun cdv A outer s H E hr => ⟨_, (dss_cons (ds_set 1 sc_shape.nd (de_callP spec_mono G_measure (hr.mono (by decide)) rfl (da_cons (dv 0) da_nil))) (dss_cons (ds_if (dt_val (de_callP spec_mono G_is_square (hr.mono (by decide)) rfl (da_cons (dv 1) da_nil))) (dss_one (ds_ret de_str)) dss_nil) (dss_cons (ds_if (dt_gt (dv 1) de_int) (dss_one (ds_ret de_str)) dss_nil) (dss_cons (ds_if (dt_gt (de_sub_ix (dv 0) de_int) de_int) (dss_one (ds_ret de_str)) dss_nil) (dss_one (ds_ret de_str)))))), fun ds Q h => ?_⟩⟩
  obtain ⟨f, rfl, hf, q⟩ := h
  walk_at "go"
  refine specF_of f (hf.le (by decide)) ?_
  have hm : Bt 4000 (meas f) := by
    obtain ⟨h1, h2, h3⟩ := hf
    have h4 : Bt 3 4 := Bt.of_abs (by decide)
    exact ((h2.mul h2).sub ((h4.mul h1).mul h3)).le (by decide)
  refine spec_of (meas f) hm ?_
  rintro _ ⟨b, rfl, hb⟩
  walk_at "rd"
  refine ite2 (fun h => q _ (.flat (hb.mp h))) (fun h => ?_)
  have hn : ¬ isSq (meas f) := fun z => h (hb.mpr z)
  refine ite2 (fun h => q _ (.saddle hn (of_decide_eq_true h))) (fun h => ?_)
  have hp : ¬ 0 < meas f := fun z => h (decide_eq_true z)
  refine ite2 (fun h => q _ (.bowl hn hp (of_decide_eq_true h))) (fun h => q _ (.dome hn hp fun z => h (decide_eq_true z)))

abbrev sp_check_bowl : DSp := specF (fun f : I3 => [t3 f]) (fun f => B3 1500 f ∧ Bowl f) fun _ => .non
abbrev sp_stands_least : DSp := specF (fun f : I3 => [t3 f]) (fun _ => True) fun f => .bl (stands f)
abbrev sp_is_least : DSp := specF (fun f : I3 => [t3 f]) (fun f => B3 1500 f ∧ Bowl f) fun f => .bl (stands f)
theorem ok_check_bowl {P : Program} {w : World} {K : PySem.W.Frag} {mg : Str → Option Value} {base : Heap} (T : Txt K mg)
    (G_shape : Pm P w K mg base 3 "shape" s_shape ["form"] sp_shape)
    : Pm P w K mg base 4 "check_bowl" s_check_bowl ["form"] sp_check_bowl := by
  obtain ⟨f, fd, F⟩ := T.t_check_bowl
  refine ⟨f, fd, F, F.fn.okD sc_check_bowl (fun ds Q ⟨p, e, _⟩ => by rw [e]; rfl) fun cdv A outer s H E hr => ⟨_, (dss_one (ds_if (dt_ne hr.units (de_callP spec_mono G_shape (hr.mono (by decide)) rfl (da_cons (dv 0) da_nil)) de_str) (dss_one ds_never) dss_nil)), fun ds Q h => ?_⟩⟩
  obtain ⟨f, rfl, ⟨hb, h0, h1⟩, q⟩ := h
  walk_at "go"
  have h0 : 0 < f.1 := h0
  have h1 : meas f < 0 := h1
  refine spec_of f hb ?_
  rintro _ hw
  cases hw with
  | flat z => exact absurd z (isSq_neg h1)
  | saddle _ z => exact absurd z (by omega)
  | dome _ _ z => exact absurd h0 z
  | bowl _ _ _ => exact ⟨⟨by rw [flat_s]; decide +kernel, by rw [flat_s]; decide +kernel⟩, ifn (by rw [eq_ss]; rfl) (q _ rfl)⟩
theorem ok_stands_least {P : Program} {w : World} {K : PySem.W.Frag} {mg : Str → Option Value} {base : Heap} (T : Txt K mg)
    : Pm P w K mg base 1 "stands_least" s_stands_least ["form"] sp_stands_least := by
  obtain ⟨f, fd, F⟩ := T.t_stands_least
  refine ⟨f, fd, F, F.fn.okD sc_stands_least (fun ds Q ⟨p, e, _⟩ => by rw [e]; rfl) fun cdv A outer s H E hr => ⟨_, (dss_cons (ds_set 1 sc_stands_least.nd (de_sub_ix (dv 0) de_int)) (dss_cons (ds_set 2 sc_stands_least.nd (de_sub_ix (dv 0) de_int)) (dss_cons (ds_set 3 sc_stands_least.nd (de_sub_ix (dv 0) de_int)) (dss_cons (ds_if (dt_not (dt_chain3 op_le op_le op_le sem_B0 sem_B0 sem_B0  (de_neg (dv 1)) (dv 2) (dv 1) (dv 3))) (dss_one (ds_ret de_bl)) dss_nil) (dss_one (ds_ret (de_or (de_ge (dv 2) de_int) (de_one (de_and (de_ne hr.units (dv 2) (de_neg (dv 1))) (de_one (de_ne hr.units (dv 1) (dv 3)))))))))))), fun ds Q h => ?_⟩⟩
  obtain ⟨⟨a, b, c⟩, rfl, _, q⟩ := h
  have q' := q _ rfl
  dsimp only [stands] at q'
  walk_at "go"
  simp only [Bool.decide_and, ne_eq, decide_not] at q'
  generalize decide (-a ≤ b) = x1 at *
  generalize decide (b ≤ a) = x2 at *
  generalize decide (a ≤ c) = x3 at *
  generalize decide (0 ≤ b) = x4 at *
  generalize decide (b = -a) = x5 at *
  generalize decide (a = c) = x6 at *
  cases x1 <;> cases x2 <;> cases x3 <;> cases x4 <;> cases x5 <;> cases x6 <;> exact q'
abbrev sp_turn_lower : DSp := specF (fun f : I3 => [t3 f]) (fun f => B3 8000 f ∧ 0 < f.1) fun f => t4 (lowerT f)
theorem ok_turn_lower {P : Program} {w : World} {K : PySem.W.Frag} {mg : Str → Option Value} {base : Heap} (T : Txt K mg)
    : Pm P w K mg base 1 "turn_lower" s_turn_lower ["form"] sp_turn_lower := by
  obtain ⟨f, fd, F⟩ := T.t_turn_lower
  refine ⟨f, fd, F, F.fn.okD sc_turn_lower (fun ds Q ⟨p, e, _⟩ => by rw [e]; rfl) fun cdv A outer s H E hr => ⟨_, (dss_cons (ds_set 1 sc_turn_lower.nd (de_div (de_sub (de_sub_ix (dv 0) de_int) (de_sub_ix (dv 0) de_int)) (de_mul de_int (de_sub_ix (dv 0) de_int)))) (dss_cons (ds_if (dt_ne hr.units (dv 1) de_int) (dss_one (ds_ret (de_tup (da_cons de_int (da_cons (dv 1) (da_cons de_int (da_cons de_int da_nil))))))) dss_nil) (dss_one (ds_ret (de_tup (da_cons de_int (da_cons (de_neg de_int) (da_cons de_int (da_cons de_int da_nil))))))))), fun ds Q h => ?_⟩⟩
  obtain ⟨⟨a, b, c⟩, rfl, ⟨⟨h1, h2, h3⟩, h0⟩, q⟩ := h
  have h0 : 0 < a := h0
  have h1 : Bt 8000 a := h1
  have two : Bt 2 2 := Bt.of_abs (by decide)
  have q' := q _ rfl
  dsimp only at q'
  walk_at "go"
  refine ⟨two.mulOk h1, Bt.divOk (two.mul h1) (by omega), ?_⟩
  by_cases ho : (a - b).fdiv (2 * a) = 0
  · refine iff' (by rw [decide_eq_true ho]; rfl) ⟨size_ok (by decide), ?_⟩
    rw [lower_zero (f := (a, b, c)) ho] at q'
    exact q'
  · refine ift (by rw [decide_eq_false ho]; rfl) ⟨size_ok (by decide), ?_⟩
    rw [lower_lift (f := (a, b, c)) ho] at q'
    exact q'
def Settled (f : I3) (d : Dt) : Prop := ∃ t : I4, d = .tup [t3 (mov f t), t4 t] ∧ det t = 1 ∧ Least (mov f t) ∧ B4 5000 t
abbrev sp_settled : DSp := spec (fun f : I3 => [t3 f]) (fun f => B3 1500 f ∧ Bowl f) Settled
theorem ok_settled {P : Program} {w : World} {K : PySem.W.Frag} {mg : Str → Option Value} {base : Heap} (T : Txt K mg)
    (G_check_bowl : Pm P w K mg base 4 "check_bowl" s_check_bowl ["form"] sp_check_bowl)
    (G_stands_least : Pm P w K mg base 1 "stands_least" s_stands_least ["form"] sp_stands_least)
    (G_turn_lower : Pm P w K mg base 1 "turn_lower" s_turn_lower ["form"] sp_turn_lower)
    (G_moved : Pm P w K mg base 3 "moved" s_moved ["form", "turn"] sp_moved)
    (G_put_behind : Pm P w K mg base 1 "put_behind" s_put_behind ["one", "other"] sp_put_behind)
    : Pm P w K mg base 5 "settled" s_settled ["form"] sp_settled := by
  obtain ⟨f, fd, F⟩ := T.t_settled
  obtain ⟨a_SAME, m_SAME, q_SAME⟩ := T.k_SAME
  refine ⟨f, fd, F, F.fn.okD sc_settled (fun ds Q ⟨p, e, _⟩ => by rw [e]; rfl) fun cdv A outer s H E hr => ⟨_, (dss_cons (ds_expr (de_callP spec_mono G_check_bowl (hr.mono (by decide)) rfl (da_cons (dv 0) da_nil))) (dss_cons (ds_set 1 sc_settled.nd (de_glob (v := .ref a_SAME) rfl m_SAME rfl q_SAME)) (dss_cons (ds_while PassesOwn.never (dt_not (dt_val (de_callP spec_mono G_stands_least (hr.mono (by decide)) rfl (da_cons (dv 0) da_nil)))) (dss_cons (ds_set 2 sc_settled.nd (de_callP spec_mono G_turn_lower (hr.mono (by decide)) rfl (da_cons (dv 0) da_nil))) (dss_cons (ds_set 0 sc_settled.nd (de_callP spec_mono G_moved (hr.mono (by decide)) rfl (da_cons (dv 0) (da_cons (dv 2) da_nil)))) (dss_one (ds_set 1 sc_settled.nd (de_callP spec_mono G_put_behind (hr.mono (by decide)) rfl (da_cons (dv 1) (da_cons (dv 2) da_nil)))))))) (dss_one (ds_ret (de_tup (da_cons (dv 0) (da_cons (dv 1) da_nil)))))))), fun ds Q h => ?_⟩⟩
  obtain ⟨f, rfl, ⟨hb, hw⟩, q⟩ := h
  have hw : Bowl f := hw
  have hb : B3 1500 f := hb
  have hm : Bt 3010 (meas f) := by
    obtain ⟨h1, h2, h3⟩ := hb
    have h4 : Bt 3 4 := Bt.of_abs (by decide)
    exact ((h2.mul h2).sub ((h4.mul h1).mul h3)).le (by decide)
  walk_at "go"
  refine specF_of f ⟨hb, hw⟩ ?_
  refine while_of (fun m ρ => ∃ t x, ρ = [some (.is (t3 (mov f t))), some (.is (t4 t)), x] ∧ det t = 1 ∧ Bt 1500 (mov f t).1 ∧ Bt 1500 (mov f t).2.1 ∧ m = msr (mov f t)) _ ⟨(1, 0, 0, 1), none, by rw [mov_same], rfl, by rw [mov_same]; exact hb.1, by rw [mov_same]; exact hb.2.1, rfl⟩ ?_
  rintro m _ ⟨t, x, rfl, hd, b1, b2, rfl⟩
  have hg := bowl_mov hw hd
  have hgb : B3 7000 (mov f t) := (bowl_bt hg b1 b2 (by rw [meas_mov hd]; exact hm)).le (by decide)
  have ht : B4 5000 t := turn_bt hw hb hgb (by decide)
  walk_at "rd"
  refine specF_of (mov f t) trivial ?_
  walk_at "rd"
  by_cases hs : stands (mov f t) = true
  · refine iff' (by rw [hs]; rfl) ⟨size_ok (by decide), q _ ⟨t, rfl, hd, stands_least hg.1 hs, ht⟩⟩
  · have hs : stands (mov f t) = false := by simpa using hs
    refine ift (by rw [hs]; rfl) ?_
    have hl : B4 2000 (lowerT (mov f t)) := (lower_b4 hg.1 b1 b2).le (by decide)
    refine specF_of (mov f t) ⟨hgb.le (by decide), hg.1⟩ ?_
    refine specF_of (mov f t, lowerT (mov f t)) ⟨hgb.le (by decide), hl.le (by decide), lower_det⟩ ?_
    refine specF_of (t, lowerT (mov f t)) ⟨ht.le (by decide), hl.le (by decide)⟩ ?_
    have hb' := lower_bt hg hs b1 b2
    have hm' := lower_msr hg hs
    rw [mov_then] at hb' hm'
    dsimp only
    rw [mov_then]
    refine ⟨_, hm', thenV t (lowerT (mov f t)), _, rfl, ?_, hb'.1, hb'.2, rfl⟩
    rw [det_then, hd, lower_det]; rfl

abbrev sp_turning_of_least : DSp := specF (fun f : I3 => [t3 f]) (fun _ => True) fun f => t4 (turningL f)
theorem ok_turning_of_least {P : Program} {w : World} {K : PySem.W.Frag} {mg : Str → Option Value} {base : Heap} (T : Txt K mg)
    : Pm P w K mg base 1 "turning_of_least" s_turning_of_least ["form"] sp_turning_of_least := by
  obtain ⟨f, fd, F⟩ := T.t_turning_of_least
  refine ⟨f, fd, F, F.fn.okD sc_turning_of_least (fun ds Q ⟨p, e, _⟩ => by rw [e]; rfl) fun cdv A outer s H E hr => ⟨_, (dss_cons (ds_if (DW.dt (dw_and (dt_eq hr.units (de_sub_ix (dv 0) de_int) (de_sub_ix (dv 0) de_int)) (dw_and1 (dt_eq hr.units (de_sub_ix (dv 0) de_int) de_int)))) (dss_one (ds_ret (de_tup (da_cons de_int (da_cons (de_neg de_int) (da_cons de_int (da_cons de_int da_nil))))))) dss_nil) (dss_cons (ds_if (DW.dt (dw_and (dt_eq hr.units (de_sub_ix (dv 0) de_int) (de_sub_ix (dv 0) de_int)) (dw_and1 (dt_eq hr.units (de_sub_ix (dv 0) de_int) (de_sub_ix (dv 0) de_int))))) (dss_one (ds_ret (de_tup (da_cons de_int (da_cons (de_neg de_int) (da_cons de_int (da_cons de_int da_nil))))))) dss_nil) (dss_one (ds_ret (de_tup (da_cons (de_neg de_int) (da_cons de_int (da_cons de_int (da_cons (de_neg de_int) da_nil))))))))), fun ds Q h => ?_⟩⟩
  obtain ⟨⟨a, b, c⟩, rfl, _, q⟩ := h
  have q' := q _ rfl
  dsimp only [turningL] at q'
  walk_at "go"
  by_cases h1 : a = c
  · by_cases h2 : b = 0
    · rw [if_pos ⟨h1, h2⟩] at q'
      simp only [decide_eq_true h1, decide_eq_true h2, if_true]
      walk_at "rd"
      exact ⟨size_ok (by decide), q'⟩
    · rw [if_neg (fun z => h2 z.2)] at q'
      by_cases h3 : b = a
      · rw [if_pos ⟨h1, h3⟩] at q'
        simp only [decide_eq_true h1, decide_eq_false h2, decide_eq_true h3, if_true, Bool.false_eq_true, if_false]
        walk_at "rd"
        exact ⟨size_ok (by decide), q'⟩
      · rw [if_neg (fun z => h3 z.2)] at q'
        simp only [decide_eq_true h1, decide_eq_false h2, decide_eq_false h3, if_true, Bool.false_eq_true, if_false]
        walk_at "rd"
        exact ⟨size_ok (by decide), q'⟩
  · rw [if_neg (fun z => h1 z.1), if_neg (fun z => h1 z.1)] at q'
    simp only [decide_eq_false h1, Bool.false_eq_true, if_false]
    walk_at "rd"
    exact ⟨size_ok (by decide), q'⟩
abbrev sp_turns_of_least : DSp := specF (fun f : I3 => [t3 f]) (fun _ => True) fun f => .lst ((ownL f).map t4)
theorem ok_turns_of_least {P : Program} {w : World} {K : PySem.W.Frag} {mg : Str → Option Value} {base : Heap} (T : Txt K mg)
    (G_turning_of_least : Pm P w K mg base 1 "turning_of_least" s_turning_of_least ["form"] sp_turning_of_least)
    (G_put_behind : Pm P w K mg base 1 "put_behind" s_put_behind ["one", "other"] sp_put_behind)
    : Pm P w K mg base 2 "turns_of_least" s_turns_of_least ["form"] sp_turns_of_least := by
  obtain ⟨f, fd, F⟩ := T.t_turns_of_least
  obtain ⟨a_SAME, m_SAME, q_SAME⟩ := T.k_SAME
  refine ⟨f, fd, F, F.fn.okD sc_turns_of_least (fun ds Q ⟨p, e, _⟩ => by rw [e]; rfl) fun cdv A outer s H E hr => ⟨_, (dss_cons (ds_set 1 sc_turns_of_least.nd (de_callP spec_mono G_turning_of_least (hr.mono (by decide)) rfl (da_cons (dv 0) da_nil))) (dss_cons (ds_own 2 sc_turns_of_least.nd (da_cons (de_glob (v := .ref a_SAME) rfl m_SAME rfl q_SAME) da_nil)) (dss_cons (ds_set 3 sc_turns_of_least.nd (dv 1)) (dss_cons (ds_while PassesOwn.never (dt_ne hr.units (dv 3) (de_glob (v := .ref a_SAME) rfl m_SAME rfl q_SAME)) (dss_cons (ds_app 2 (dv 3)) (dss_one (ds_set 3 sc_turns_of_least.nd (de_callP spec_mono G_put_behind (hr.mono (by decide)) rfl (da_cons (dv 3) (da_cons (dv 1) da_nil))))))) (dss_one (ds_frz 2 (ds_ret (dv 2)))))))), fun ds Q h => ?_⟩⟩
  obtain ⟨f, rfl, _, q⟩ := h
  have q' := q _ rfl
  obtain ⟨w0, w1, w2, w3⟩ := ownL_walk f
  obtain ⟨l2, l6⟩ := ownL_len f
  have e1 : (ownL f).take 1 = [(1, 0, 0, 1)] := by
    rw [List.take_succ, w0]
    rfl
  walk_at "go"
  refine specF_of f trivial ?_
  walk_at "rd"
  refine ⟨size_ok (by decide), while_of (fun m ρ => ∃ k t, k + m = (ownL f).length ∧ 0 < k ∧ (if k = (ownL f).length then some (1, 0, 0, 1) else (ownL f)[k]?) = some t ∧ ρ = [some (.is (t3 f)), some (.is (t4 (turningL f))), some (.own (((ownL f).take k).map t4)), some (.is (t4 t))]) ((ownL f).length - 1) ⟨1, turningL f, by omega, by omega, by rw [if_neg (by omega)]; exact w1, by rw [e1]; rfl⟩ ?_⟩
  rintro m _ ⟨k, t, hk, k0, ht, rfl⟩
  walk_at "rd"
  have hb : B4 2 (turningL f) := ownL_bt (List.mem_of_getElem? w1)
  by_cases hl : k = (ownL f).length
  · rw [if_pos hl] at ht
    cases ht
    refine iff' (by simp) ?_
    rw [hl, List.take_length]
    exact q'
  · rw [if_neg hl] at ht
    have hlt : k < (ownL f).length := by omega
    have hne : t ≠ (1, 0, 0, 1) := fun z => w2 k k0 hlt (by rw [ht, z])
    obtain ⟨x, y, z, w⟩ := t
    refine ift ?_ ⟨by rw [List.length_take, Nat.min_eq_left (by omega)]; exact Nat.lt_of_lt_of_le (by omega) (size_ok (n := 7) (by decide)), specF_of ((x, y, z, w), turningL f) ⟨(ownL_bt (List.mem_of_getElem? ht)).le (by decide), hb.le (by decide)⟩ ?_⟩
    · have ez := eq_t4 (s := (x, y, z, w)) (t := (1, 0, 0, 1))
      rw [decide_eq_false hne] at ez
      simp only [eq_tt, eqs_cc, eqs_nn, eq_ii, Bool.and_true] at ez
      rw [ez]
      rfl
    · refine ⟨m - 1, by omega, k + 1, _, by omega, by omega, w3 k k0 hlt _ ht, ?_⟩
      rw [List.take_add_one, ht, Option.toList_some, List.map_append, List.map_cons, List.map_nil]
def OwnRows (f : I3) (u : I4) : List (List Int) := sortR ((ownL (mov f u)).map fun t => r4 (thenV (thenV u t) (backV u)))
abbrev sp_own_turns : DSp := spec (fun f : I3 => [t3 f]) (fun f => B3 1500 f ∧ Bowl f) fun f d => ∃ u : I4, det u = 1 ∧ Least (mov f u) ∧ B4 5000 u ∧ d = .lst ((OwnRows f u).map rowD')
theorem ok_own_turns {P : Program} {w : World} {K : PySem.W.Frag} {mg : Str → Option Value} {base : Heap} (T : Txt K mg)
    (G_settled : Pm P w K mg base 5 "settled" s_settled ["form"] sp_settled)
    (G_back : Pm P w K mg base 3 "back" s_back ["turn"] sp_back)
    (G_put_behind : Pm P w K mg base 1 "put_behind" s_put_behind ["one", "other"] sp_put_behind)
    (G_turns_of_least : Pm P w K mg base 2 "turns_of_least" s_turns_of_least ["form"] sp_turns_of_least)
    : Pm P w K mg base 6 "own_turns" s_own_turns ["form"] sp_own_turns := by
  obtain ⟨f, fd, F⟩ := T.t_own_turns
  refine ⟨f, fd, F, F.fn.okD sc_own_turns (fun ds Q ⟨p, e, _⟩ => by rw [e]; rfl) fun cdv A outer s H E hr => ⟨_, (dss_cons (ds_set 1 sc_own_turns.nd (de_callP spec_mono G_settled (hr.mono (by decide)) rfl (da_cons (dv 0) da_nil))) (dss_cons (ds_set 2 sc_own_turns.nd (de_sub_ix (dv 1) de_int)) (dss_cons (ds_set 3 sc_own_turns.nd (de_callP spec_mono G_back (hr.mono (by decide)) rfl (da_cons (dv 2) da_nil))) (dss_one (ds_ret (de_sortT T.z_sorted (da_cons (de_comp (comp_side (sc := defScope s_own_turns) (NN := ["form", "lowest", "there", "home"]) (x := "turn") (N := ["home", "there"]) (sl := [3, 2]) rfl rfl (by decide +kernel)) rfl (di_lst (de_callP spec_mono G_turns_of_least (hr.mono (by decide)) rfl (da_cons (de_sub_ix (dv 1) de_int) da_nil))) (fun cl C s0 H0 ex => (de_callP spec_mono G_put_behind (hr.mono (by decide)) rfl (da_cons (de_callP spec_mono G_put_behind (hr.mono (by decide)) rfl (da_cons (dv 2) (da_cons (dv 0) da_nil))) (da_cons (dv 1) da_nil))))) da_nil))))))), fun ds Q h => ?_⟩⟩
  obtain ⟨f, rfl, ⟨hf, hw⟩, q⟩ := h
  walk_at "go"
  refine spec_of f ⟨hf, hw⟩ ?_
  rintro _ ⟨u, rfl, du, Lu, bu⟩
  walk_at "rd"
  refine specF_of u ⟨bu, du⟩ ?_
  obtain ⟨l2, l6⟩ := ownL_len (mov f u)
  refine dComp_map ((ownL (mov f u)).map t4) (fun d => match d with
    | .tup [.int a, .int b, .int c, .int e] => t4 (thenV (thenV u (a, b, c, e)) (backV u))
    | _ => .non) (fun R hR => ?_) (by rw [List.length_map]; exact size_ok (by omega)) (caught_cons rfl (caught_cons rfl caught_nil)) (fun d hd R hR => ?_) ?_
  · walk_at "rd"
    exact specF_of (mov f u) trivial hR
  · obtain ⟨t, ht, rfl⟩ := List.mem_map.mp hd
    unfold inner
    walk_at "rd"
    have bt := ownL_bt ht
    refine specF_of (u, t) ⟨bu.le (by decide), bt.le (by decide)⟩ ?_
    exact specF_of (thenV u t, backV u) ⟨(bu.then bt).le (by decide), bu.back.le (by decide)⟩ hR
  · refine ⟨(ownL (mov f u)).map fun t => r4 (thenV (thenV u t) (backV u)), ?_, by rw [List.length_map]; omega, fun r hr => ?_, q _ ⟨u, du, Lu, bu, rfl⟩⟩
    · rw [List.map_map, List.map_map]
      rfl
    · obtain ⟨t, _, rfl⟩ := List.mem_map.mp hr
      simp [r4]

abbrev sp__law_cell : DSp := specF (fun p : List Int × Int => [.lst (p.1.map Dt.int), .int p.2]) (fun p => 0 ≤ p.2) fun p => .int (p.1.getD p.2.toNat 0)
theorem cell_of {Q : Dt → Prop} (ns : List Int) (k : Int) (h : 0 ≤ k) (q : Q (.int (ns.getD k.toNat 0))) : sp__law_cell [.lst (ns.map Dt.int), .int k] Q := specF_of (ns, k) h q
theorem ok__law_cell {P : Program} {w : World} {K : PySem.W.Frag} {mg : Str → Option Value} {base : Heap} (T : Txt K mg)
    : Pm P w K mg base 1 "_law_cell" s__law_cell ["_law_script", "_law_k"] sp__law_cell := by
  obtain ⟨f, fd, F⟩ := T.t__law_cell
  refine ⟨f, fd, F, F.fn.okD sc__law_cell (fun ds Q ⟨p, e, _⟩ => by rw [e]; rfl) fun cdv A outer s H E hr => ⟨_, (dss_cons (ds_if (dt_lt (dv 1) (de_len T.z_len (da_cons (dv 0) da_nil))) (dss_one (ds_ret (de_sub_ix (dv 0) (dv 1)))) dss_nil) (dss_one (ds_ret de_int))), fun ds Q h => ?_⟩⟩
  obtain ⟨⟨ns, k⟩, rfl, h0, q⟩ := h
  walk_at "go"
  by_cases hk : k < ns.length
  · simp only [decide_eq_true hk, ix_ints h0 hk, if_true]
    exact q _ rfl
  · simp only [decide_eq_false hk]
    have e : ns.getD k.toNat 0 = 0 := by
      have : ns.length ≤ k.toNat := by have h0' : 0 ≤ k := h0; omega
      simp [this]
    have q' := q _ rfl
    dsimp only at q'
    rw [e] at q'
    exact q'

/-- the first cells -/
theorem comp_cells {ns : List Int} {ρ : DEnv} {Q : Dt → Prop} (n : Nat) (hn : n ≤ 60) (h0 : ρ[0]? = some (some (.is (.lst (ns.map Dt.int))))) (hq : Q (.lst ((List.range n).map fun i => .int (ns.getD i 0)))) :
    dComp [0] (diRng1 (dCons (dC (Dt.int n)) dNil)) dTrue (dCall sp__law_cell (dCons (dVar 1) (dCons (dVar 0) dNil))) ρ Q := by
  have ei : ∀ d, inner [0] ρ d = [some (.is d), some (.is (.lst (ns.map Dt.int)))] := fun d => by unfold inner; simp [h0]
  refine dComp_map (ups 0 n) (fun d => match d with | .int k => .int (ns.getD k.toNat 0) | _ => .non) (fun R hR => ?_) (by rw [ups_len]; exact size_ok (by omega)) (caught_cons h0 caught_nil) (fun d hd R hR => ?_) ?_
  · walk_at "rd"
    exact ⟨⟨by omega, by omega⟩, by simpa using hR⟩
  · obtain ⟨k, hk⟩ := List.getElem?_of_mem hd
    obtain ⟨hk, rfl⟩ := ups_get hk
    rw [ei]
    dsimp only [dCall, dCons, dVar, dNil, List.getElem?_cons_zero, List.getElem?_cons_succ]
    exact cell_of ns _ (by omega) hR
  · unfold ups
    rw [List.map_map]
    have e : (List.range n).map ((fun d => match d with | Dt.int k => Dt.int (ns.getD k.toNat 0) | _ => .non) ∘ fun i => Dt.int (0 + (i : Nat))) = (List.range n).map fun i => Dt.int (ns.getD i 0) := by
      refine List.map_congr_left fun i _ => ?_
      show Dt.int (ns.getD (0 + (i : Int)).toNat 0) = _
      rw [show (0 + (i : Int)).toNat = i by omega]
    rw [e]
    exact hq

def isI : Dt → Bool
  | .int _ => true
  | _ => false
abbrev sp__law_wholes : DSp := specF (fun p : List Int × Int => [.tup (p.1.map Dt.int), .int p.2]) (fun p => p.1.length ≤ 1000) fun p => .bl (decide ((p.1.length : Int) = p.2))
theorem wholes_of {Q : Dt → Prop} (ns : List Int) (k : Int) (h : (ns.length : Int) = k) (hl : ns.length ≤ 1000) (q : Q (.bl true)) : sp__law_wholes [.tup (ns.map Dt.int), .int k] Q :=
  specF_of (ns, k) hl (by dsimp only; rw [decide_eq_true h]; exact q)
theorem wholes2 {Q : Dt → Prop} (p : I2) (q : Q (.bl true)) : sp__law_wholes [t2 p, .int 2] Q := wholes_of [p.1, p.2] 2 rfl (by show 2 ≤ 1000; decide) q
theorem wholes4 {Q : Dt → Prop} (p : I4) (q : Q (.bl true)) : sp__law_wholes [t4 p, .int 4] Q := wholes_of [p.1, p.2.1, p.2.2.1, p.2.2.2] 4 rfl (by show 4 ≤ 1000; decide) q
theorem wholes3 {Q : Dt → Prop} (p : I3) (q : Q (.bl true)) : sp__law_wholes [t3 p, .int 3] Q := wholes_of [p.1, p.2.1, p.2.2] 3 rfl (by show 3 ≤ 1000; decide) q
theorem ok__law_wholes {P : Program} {w : World} {K : PySem.W.Frag} {mg : Str → Option Value} {base : Heap} (T : Txt K mg)
    : Pm P w K mg base 1 "_law_wholes" s__law_wholes ["_law_found", "_law_many"] sp__law_wholes := by
  obtain ⟨f, fd, F⟩ := T.t__law_wholes
  refine ⟨f, fd, F, F.fn.okD sc__law_wholes (fun ds Q ⟨p, e, _⟩ => by rw [e]; rfl) fun cdv A outer s H E hr => ⟨_, (dss_cons (ds_if (DW.dt (dw_or (dt_not (dt_val (de_isi T.z_isinstance T.z_tuple isi_tuple (dv 0)))) (dw_or1 (dt_ne hr.units (de_len T.z_len (da_cons (dv 0) da_nil)) (dv 1))))) (dss_one (ds_ret de_bl)) dss_nil) (dss_one (ds_ret (de_eq hr.units (de_len T.z_len (da_cons (de_compI (comp_side (sc := defScope s__law_wholes) (NN := ["_law_found", "_law_many"]) (x := "_law_one") (N := []) (sl := []) rfl rfl (by decide +kernel)) rfl (di_tup (dv 0)) (fun cl C s0 H0 ex => (DW.dt (dw_and (dt_val (de_isi T.z_isinstance T.z_int isi_int (dv 0))) (dw_and1 (dt_not (dt_val (de_isi T.z_isinstance T.z_bool isi_bool (dv 0)))))))) (fun cl C s0 H0 ex => (dv 0))) da_nil)) (dv 1))))), fun ds Q h => ?_⟩⟩
  obtain ⟨⟨ns, k⟩, rfl, h0, q⟩ := h
  walk_at "go"
  have q' := q _ rfl
  dsimp only at q'
  by_cases hk : (ns.length : Int) = k
  · rw [decide_eq_true hk] at q'
    simp only [decide_eq_true hk]
    walk_at "rd"
    refine dComp_filter (ns.map Dt.int) isI id (fun R h => h) (by rw [List.length_map]; exact size_ok h0) caught_nil (fun d hd R hR => ?_) (fun d hd hp R hR => hR) ?_
    · unfold inner
      walk_at "rd"
      obtain ⟨n, _, rfl⟩ := List.mem_map.mp hd
      exact ⟨rfl, rfl, hR⟩
    · have e : (List.filter isI (ns.map Dt.int)).map id = ns.map Dt.int := by
        rw [List.map_id, List.filter_eq_self]
        intro d hd
        obtain ⟨n, _, rfl⟩ := List.mem_map.mp hd
        rfl
      rw [e]
      walk_at "rd"
      rw [decide_eq_true hk]
      exact q'
  · rw [decide_eq_false hk] at q'
    simp only [decide_eq_false hk]
    exact q'

abbrev sp__law_turn : DSp := spec (fun p : Int × List Int => [.int p.1, .lst (p.2.map Dt.int)]) (fun p => Bt 100 p.1 ∧ p.2.length ≤ 63) fun _ d => ∃ t : I4, d = t4 t ∧ det t = 1 ∧ B4 500 t
theorem ok__law_turn {P : Program} {w : World} {K : PySem.W.Frag} {mg : Str → Option Value} {base : Heap} (T : Txt K mg)
    : Pm P w K mg base 1 "_law_turn" s__law_turn ["_law_first", "_law_cells"] sp__law_turn := by
  obtain ⟨f, fd, F⟩ := T.t__law_turn
  refine ⟨f, fd, F, F.fn.okD sc__law_turn (fun ds Q ⟨p, e, _⟩ => by rw [e]; rfl) fun cdv A outer s H E hr => ⟨_, (dss_cons (ds_asg (de_tup (da_cons de_int (da_cons (dv 0) (da_cons de_int (da_cons de_int da_nil))))) (dg_tup (n := 4) rfl (dgs_cons (dg_name 2 sc__law_turn.nd) (dgs_cons (dg_name 3 sc__law_turn.nd) (dgs_cons (dg_name 4 sc__law_turn.nd) (dgs_cons (dg_name 5 sc__law_turn.nd) dgs_nil)))))) (dss_cons (ds_for PassesOwn.never rfl (di_lst (dv 1)) (dg_name 6 sc__law_turn.nd) (dss_cons (ds_set 7 sc__law_turn.nd (de_sub (de_mod (dv 6) de_int) de_int)) (dss_one (ds_asg (de_tup (da_cons (dv 3) (da_cons (de_sub (de_mul (dv 7) (dv 3)) (dv 2)) (da_cons (dv 5) (da_cons (de_sub (de_mul (dv 7) (dv 5)) (dv 4)) da_nil))))) (dg_tup (n := 4) rfl (dgs_cons (dg_name 2 sc__law_turn.nd) (dgs_cons (dg_name 3 sc__law_turn.nd) (dgs_cons (dg_name 4 sc__law_turn.nd) (dgs_cons (dg_name 5 sc__law_turn.nd) dgs_nil))))))))) (dss_one (ds_ret (de_tup (da_cons (dv 2) (da_cons (dv 3) (da_cons (dv 4) (da_cons (dv 5) da_nil))))))))), fun ds Q h => ?_⟩⟩
  obtain ⟨⟨f, cs⟩, rfl, ⟨hf, hl⟩, q⟩ := h
  walk_at "go"
  refine ⟨size_ok (by decide), ?_⟩
  refine dFor_of (cs.map Dt.int) (fun R h => h) (fun i ρ => ∃ p q r s x y, ρ = [some (.is (.int f)), some (.is (.lst (cs.map Dt.int))), some (.is (.int p)), some (.is (.int q)), some (.is (.int r)), some (.is (.int s)), x, y] ∧ p * s - q * r = 1 ∧ B4 (101 + 5 * i) (p, q, r, s)) ?_ ?_ ?_
  · exact ⟨1, f, 0, 1, none, none, rfl, by omega, Bt.one.le (by decide), hf.le (by decide), Bt.zero.le (by decide), Bt.one.le (by decide)⟩
  · rintro i d _ hi ⟨p, q, r, s, x, y, rfl, hd, hp, hq, hr, hs⟩
    obtain ⟨n, hn, rfl⟩ := ints_get hi
    have hk : Bt 4 (n.fmod 19 - 9) := by
      have h1 : n.fmod 19 = n % 19 := Int.fmod_eq_emod_of_nonneg n (by decide)
      rw [h1]
      exact Bt.of (by omega) (by omega)
    have hi6 : i < 63 := by
      have := (List.getElem?_eq_some_iff.mp hn).1
      have hl' : cs.length ≤ 63 := hl
      omega
    have hq' : Bt 500 q := hq.le (by omega)
    have hs' : Bt 500 s := hs.le (by omega)
    walk_at "rd"
    refine ⟨by decide, by walk_at "mul", by walk_at "mul", size_ok (by decide), ?_⟩
    refine ⟨q, (n.fmod 19 - 9) * q - p, s, (n.fmod 19 - 9) * s - r, _, _, rfl, by grind, ?_, ?_, ?_, ?_⟩
    · exact hq.le (by omega)
    · exact ((hk.mul hq).sub hp).le (by omega)
    · exact hs.le (by omega)
    · exact ((hk.mul hs).sub hr).le (by omega)
  · rintro _ ⟨p, q', r, s, x, y, rfl, hd, hb⟩
    walk_at "rd"
    refine ⟨size_ok (by decide), q _ ⟨(p, q', r, s), rfl, hd, hb.le ?_⟩⟩
    rw [List.length_map]
    have hl' : cs.length ≤ 63 := hl
    omega

abbrev sp__law_value : DSp := specF (fun p : I3 × I2 => [t3 p.1, .int p.2.1, .int p.2.2]) (fun p => B3 20000 p.1 ∧ B2 20000 p.2) fun p => .int (val p.1 p.2)
theorem ok__law_value {P : Program} {w : World} {K : PySem.W.Frag} {mg : Str → Option Value} {base : Heap} (T : Txt K mg)
    : Pm P w K mg base 1 "_law_value" s__law_value ["_law_form", "_law_x", "_law_y"] sp__law_value := by
  obtain ⟨f, fd, F⟩ := T.t__law_value
  refine ⟨f, fd, F, F.fn.okD sc__law_value (fun ds Q ⟨p, e, _⟩ => by rw [e]; rfl) fun cdv A outer s H E hr => ⟨_, (dss_cons (ds_asg (dv 0) (dg_tup (n := 3) rfl (dgs_cons (dg_name 3 sc__law_value.nd) (dgs_cons (dg_name 4 sc__law_value.nd) (dgs_cons (dg_name 5 sc__law_value.nd) dgs_nil))))) (dss_one (ds_ret (de_add (de_add (de_mul (de_mul (dv 3) (dv 1)) (dv 1)) (de_mul (de_mul (dv 4) (dv 1)) (dv 2))) (de_mul (de_mul (dv 5) (dv 2)) (dv 2)))))), fun ds Q h => ?_⟩⟩
  obtain ⟨⟨⟨a, b, c⟩, x, y⟩, rfl, ⟨⟨ha, hb, hc⟩, hx, hy⟩, q⟩ := h
  walk_at "go"
  walk_at "muls"
  exact q _ rfl
abbrev sp__law_moved : DSp := specF (fun p : I3 × I4 => [t3 p.1, t4 p.2]) (fun p => B3 20000 p.1 ∧ B4 20000 p.2) fun p => t3 (mov p.1 p.2)
theorem ok__law_moved {P : Program} {w : World} {K : PySem.W.Frag} {mg : Str → Option Value} {base : Heap} (T : Txt K mg)
    (G__law_value : Pm P w K mg base 1 "_law_value" s__law_value ["_law_form", "_law_x", "_law_y"] sp__law_value)
    : Pm P w K mg base 2 "_law_moved" s__law_moved ["_law_form", "_law_turn_here"] sp__law_moved := by
  obtain ⟨f, fd, F⟩ := T.t__law_moved
  refine ⟨f, fd, F, F.fn.okD sc__law_moved (fun ds Q ⟨p, e, _⟩ => by rw [e]; rfl) fun cdv A outer s H E hr => ⟨_, (dss_cons (ds_asg (dv 1) (dg_tup (n := 4) rfl (dgs_cons (dg_name 2 sc__law_moved.nd) (dgs_cons (dg_name 3 sc__law_moved.nd) (dgs_cons (dg_name 4 sc__law_moved.nd) (dgs_cons (dg_name 5 sc__law_moved.nd) dgs_nil)))))) (dss_cons (ds_set 6 sc__law_moved.nd (de_mul (de_sub_ix (dv 0) de_int) (de_add (de_mul (dv 2) (dv 5)) (de_mul (dv 3) (dv 4))))) (dss_cons (ds_set 6 sc__law_moved.nd (de_add (dv 6) (de_mul de_int (de_add (de_mul (de_mul (de_sub_ix (dv 0) de_int) (dv 2)) (dv 3)) (de_mul (de_mul (de_sub_ix (dv 0) de_int) (dv 4)) (dv 5)))))) (dss_one (ds_ret (de_tup (da_cons (de_callP spec_mono G__law_value (hr.mono (by decide)) rfl (da_cons (dv 0) (da_cons (dv 2) (da_cons (dv 4) da_nil)))) (da_cons (dv 6) (da_cons (de_callP spec_mono G__law_value (hr.mono (by decide)) rfl (da_cons (dv 0) (da_cons (dv 3) (da_cons (dv 5) da_nil)))) da_nil))))))))), fun ds Q h => ?_⟩⟩
  obtain ⟨⟨⟨a, b, c⟩, e, g, i, j⟩, rfl, ⟨⟨ha, hb, hc⟩, he, hg, hi, hj⟩, q⟩ := h
  walk_at "go"
  have h2 : Bt 2 2 := Bt.of_abs (by decide)
  refine ⟨by walk_at "mul", by walk_at "mul", by walk_at "mul", by walk_at "mul", by walk_at "mul", by walk_at "mul", by walk_at "mul", by walk_at "mul", ?_⟩
  refine specF_of ((a, b, c), (e, i)) ⟨⟨ha, hb, hc⟩, he, hi⟩ ?_
  refine specF_of ((a, b, c), (g, j)) ⟨⟨ha, hb, hc⟩, hg, hj⟩ ⟨size_ok (by decide), ?_⟩
  have q' := q _ rfl
  dsimp only [mov, mid] at q'
  have em : b * (e * j + g * i) + 2 * (a * e * g + c * i * j) = 2 * a * e * g + b * (e * j + g * i) + 2 * c * i * j := by grind
  rw [em]
  exact q'

abbrev sp__law_number : DSp := spec (fun n : Int => [.int n]) (fun _ => True) fun _ d => ∃ m, d = .int m ∧ 0 ≤ m ∧ Bt 70 m
theorem ok__law_number {P : Program} {w : World} {K : PySem.W.Frag} {mg : Str → Option Value} {base : Heap} (T : Txt K mg)
    : Pm P w K mg base 1 "_law_number" s__law_number ["_law_cell_here"] sp__law_number := by
  obtain ⟨f, fd, F⟩ := T.t__law_number
  refine ⟨f, fd, F, F.fn.okD sc__law_number (fun ds Q ⟨p, e, _⟩ => by rw [e]; rfl) fun cdv A outer s H E hr => ⟨_, (dss_cons (ds_if (dt_eq hr.units (de_mod (dv 0) de_int) de_int) (dss_one (ds_ret (de_mod (de_div (dv 0) de_int) de_int))) dss_nil) (dss_one (ds_ret (de_mod (de_mul (de_div (dv 0) de_int) de_int) (de_add (de_pow de_int de_int) de_int))))), fun ds Q h => ?_⟩⟩
  obtain ⟨n, rfl, _, q⟩ := h
  walk_at "go"
  have cp : CPow 10 15 := ⟨by decide, by decide, by decide⟩
  have r13 := fm_range (n.fdiv 3) (m := 13) (by decide)
  have r20 := fm_range (n.fdiv 3 * 314159265358979) (m := 10 ^ Int.toNat 15 + 1) (by decide)
  have b20 := fm_bt (n := 70) (n.fdiv 3 * 314159265358979) (m := 10 ^ Int.toNat 15 + 1) (by decide) (by decide)
  have b13 := fm_bt (n := 70) (n.fdiv 3) (m := 13) (by decide) (by decide)
  exact ⟨by decide, ite2 (fun _ => ⟨⟨by decide, by decide⟩, by decide, q _ ⟨_, rfl, r13.1, b13⟩⟩) (fun _ => ⟨⟨by decide, by decide⟩, IntMulOk.of_right (by decide), cp, by decide, q _ ⟨_, rfl, r20.1, b20⟩⟩)⟩
abbrev sp__law_least : DSp := spec (fun p : I4 => [.lst [.int p.1, .int p.2.1, .int p.2.2.1, .int p.2.2.2]]) (fun _ => True) fun _ d => ∃ f : I3, d = t3 f ∧ Least f ∧ B3 72 f
theorem fm9 (x : Int) : x.fmod 9 = 0 ∨ x.fmod 9 = 1 ∨ x.fmod 9 = 2 ∨ x.fmod 9 = 3 ∨ x.fmod 9 = 4 ∨ x.fmod 9 = 5 ∨ x.fmod 9 = 6 ∨ x.fmod 9 = 7 ∨ x.fmod 9 = 8 := by
  have := fm_range x (m := 9) (by decide)
  omega
theorem least_mk {a b c : Int} (ha : 0 < a) (h1 : -a < b) (h2 : b ≤ a) (h3 : a < c) : Least (a, b, c) := ⟨ha, by show -a ≤ b; omega, h2, by show a ≤ c; omega, fun z => by
  have z : b = -a ∨ a = c := z
  omega⟩
theorem least_mk' {a b : Int} (ha : 0 < a) (h1 : -a < b) (h2 : b ≤ a) : Least (a, if b < 0 then -b else b, a) := ⟨ha, by show -a ≤ if b < 0 then -b else b; split <;> omega, by show (if b < 0 then -b else b) ≤ a; split <;> omega, Int.le_refl a, fun _ => by
  show 0 ≤ if b < 0 then -b else b
  split <;> omega⟩
theorem ok__law_least {P : Program} {w : World} {K : PySem.W.Frag} {mg : Str → Option Value} {base : Heap} (T : Txt K mg)
    (G__law_number : Pm P w K mg base 1 "_law_number" s__law_number ["_law_cell_here"] sp__law_number)
    : Pm P w K mg base 2 "_law_least" s__law_least ["_law_cells"] sp__law_least := by
  obtain ⟨f, fd, F⟩ := T.t__law_least
  refine ⟨f, fd, F, F.fn.okD sc__law_least (fun ds Q ⟨p, e, _⟩ => by rw [e]; rfl) fun cdv A outer s H E hr => ⟨_, (dss_cons (ds_set 1 sc__law_least.nd (de_add de_int (de_callP spec_mono G__law_number (hr.mono (by decide)) rfl (da_cons (de_sub_ix (dv 0) de_int) da_nil)))) (dss_cons (ds_set 2 sc__law_least.nd (de_add (de_sub de_int (dv 1)) (de_mod (de_mul (de_sub_ix (dv 0) de_int) de_int) (de_mul de_int (dv 1))))) (dss_cons (ds_set 3 sc__law_least.nd (de_add (dv 1) (de_callP spec_mono G__law_number (hr.mono (by decide)) rfl (da_cons (de_sub_ix (dv 0) de_int) da_nil)))) (dss_cons (ds_set 4 sc__law_least.nd (de_mod (de_sub_ix (dv 0) de_int) de_int)) (dss_cons (ds_if (DW.dt (dw_or (dt_eq hr.units (dv 4) de_int) (dw_or1 (dt_eq hr.units (dv 4) de_int)))) (dss_one (ds_set 3 sc__law_least.nd (dv 1))) dss_nil) (dss_cons (ds_if (DW.dt (dw_or (dt_eq hr.units (dv 4) de_int) (dw_or1 (dt_eq hr.units (dv 4) de_int)))) (dss_one (ds_set 2 sc__law_least.nd (dv 1))) dss_nil) (dss_cons (ds_if (DW.dt (dw_or (dt_eq hr.units (dv 4) de_int) (dw_or1 (dt_eq hr.units (dv 4) de_int)))) (dss_one (ds_set 2 sc__law_least.nd de_int)) dss_nil) (dss_cons (ds_if (dt_eq hr.units (dv 4) de_int) (dss_one (ds_set 3 sc__law_least.nd (dv 1))) dss_nil) (dss_cons (ds_if (dt_eq hr.units (dv 1) (dv 3)) (dss_one (ds_set 2 sc__law_least.nd (de_abs T.z_abs (da_cons (dv 2) da_nil)))) dss_nil) (dss_one (ds_ret (de_tup (da_cons (dv 1) (da_cons (dv 2) (da_cons (dv 3) da_nil))))))))))))))), fun ds Q h => ?_⟩⟩
  obtain ⟨⟨c0, c1, c2, c3⟩, rfl, _, q⟩ := h
  simp only [dstart_c, dstart_n, dstart_e]
  have two : Bt 2 2 := Bt.of_abs (by decide)
  refine seq_asg ?_
  walk_at "rd"
  refine spec_of _ trivial ?_
  rintro _ ⟨m0, rfl, p0, b0⟩
  walk_at "rd"
  have ha : 0 < 1 + m0 := by omega
  have ba : Bt 71 (1 + m0) := (Bt.one.add b0).le (by decide)
  generalize 1 + m0 = a at *
  refine ⟨IntMulOk.of_right (by decide), two.mulOk ba, by omega, ?_⟩
  have rb := fm_range (c1 * 48271) (m := 2 * a) (by omega)
  have hb : -a < 1 - a + (c1 * 48271).fmod (2 * a) ∧ 1 - a + (c1 * 48271).fmod (2 * a) ≤ a := by omega
  generalize 1 - a + (c1 * 48271).fmod (2 * a) = b at *
  refine spec_of _ trivial ?_
  rintro _ ⟨m2, rfl, p2, b2⟩
  have finB : ∀ b : Int, -a < b → b ≤ a → 3 ≤ sizeLine ∧ Q (T3 a (if b < 0 then -b else b) a) := fun b h1 h2 => by
    refine ⟨size_ok (by decide), q _ ⟨(a, _, a), rfl, least_mk' ha h1 h2, ba.le (by decide), ?_, ba.le (by decide)⟩⟩
    show Bt 72 (if b < 0 then -b else b)
    unfold Bt at *
    split <;> omega
  have finA : ∀ b c : Int, -a < b → b ≤ a → a ≤ c → Bt 72 c → (if decide (a = c) = true then 3 ≤ sizeLine ∧ Q (T3 a (if b < 0 then -b else b) c) else 3 ≤ sizeLine ∧ Q (T3 a b c)) := fun b c h1 h2 h3 h4 => by
    by_cases h : a = c
    · subst h
      exact ift (decide_eq_true rfl) (finB b h1 h2)
    · refine iff' (decide_eq_false h) ⟨size_ok (by decide), q _ ⟨(a, b, c), rfl, least_mk ha h1 h2 (by omega), ba.le (by decide), ?_, h4⟩⟩
      show Bt 72 b
      unfold Bt at *
      omega
  have h3 : a ≤ a + m2 := by omega
  have h4 : Bt 72 (a + m2) := (ba.add b2).le (by decide)
  dsimp only
  refine ⟨by decide, ?_⟩
  rcases fm9 c3 with e | e | e | e | e | e | e | e | e <;> simp only [e, Int.reduceEq, decide_true, decide_false, Bool.false_eq_true, if_true, if_false]
  · exact finA b _ hb.1 hb.2 h3 h4
  · exact finB b hb.1 hb.2
  · exact finA a _ (by omega) (by omega) h3 h4
  · exact finA 0 _ (by omega) (by omega) h3 h4
  · exact finB a (by omega) (by omega)
  · exact finB 0 (by omega) (by omega)
  · exact finA b _ hb.1 hb.2 h3 h4
  · exact finA b _ hb.1 hb.2 h3 h4
  · exact finA b _ hb.1 hb.2 h3 h4

abbrev sp__law_then : DSp := specF (fun p : I4 × I4 => [t4 p.1, t4 p.2]) (fun p => B4 20000 p.1 ∧ B4 20000 p.2) fun p => t4 (thenV p.1 p.2)
theorem ok__law_then {P : Program} {w : World} {K : PySem.W.Frag} {mg : Str → Option Value} {base : Heap} (T : Txt K mg)
    : Pm P w K mg base 1 "_law_then" s__law_then ["_law_one", "_law_other"] sp__law_then := by
  obtain ⟨f, fd, F⟩ := T.t__law_then
  refine ⟨f, fd, F, F.fn.okD sc__law_then (fun ds Q ⟨p, e, _⟩ => by rw [e]; rfl) fun cdv A outer s H E hr => ⟨_, (dss_cons (ds_asg (dv 0) (dg_tup (n := 4) rfl (dgs_cons (dg_name 2 sc__law_then.nd) (dgs_cons (dg_name 3 sc__law_then.nd) (dgs_cons (dg_name 4 sc__law_then.nd) (dgs_cons (dg_name 5 sc__law_then.nd) dgs_nil)))))) (dss_cons (ds_asg (dv 1) (dg_tup (n := 4) rfl (dgs_cons (dg_name 6 sc__law_then.nd) (dgs_cons (dg_name 7 sc__law_then.nd) (dgs_cons (dg_name 8 sc__law_then.nd) (dgs_cons (dg_name 9 sc__law_then.nd) dgs_nil)))))) (dss_one (ds_ret (de_tup (da_cons (de_add (de_mul (dv 2) (dv 6)) (de_mul (dv 3) (dv 8))) (da_cons (de_add (de_mul (dv 2) (dv 7)) (de_mul (dv 3) (dv 9))) (da_cons (de_add (de_mul (dv 4) (dv 6)) (de_mul (dv 5) (dv 8))) (da_cons (de_add (de_mul (dv 4) (dv 7)) (de_mul (dv 5) (dv 9))) da_nil))))))))), fun ds Q h => ?_⟩⟩
  obtain ⟨⟨⟨a, b, c, d⟩, e, f, g, i⟩, rfl, ⟨⟨ha, hb, hc, hd⟩, he, hf, hg, hi⟩, q⟩ := h
  walk_at "go"
  walk_at "muls"
  exact q _ rfl
def ownsL (f : I3) : List I4 := [(1, 0, 0, 1), (-1, 0, 0, -1)] ++ (if f.1 = f.2.2 ∧ f.2.1 = 0 then [(0, -1, 1, 0), (0, 1, -1, 0)] else []) ++ (if f.1 = f.2.2 ∧ f.1 = f.2.1 then [(0, -1, 1, 1), (0, 1, -1, -1), (1, 1, -1, 0), (-1, -1, 1, 0)] else [])
theorem owns_perm {f : I3} (L : Least f) : (ownsL f).Perm (ownL f) := by
  have h0 := L.1
  unfold ownsL ownL
  by_cases h1 : f.1 = f.2.2 ∧ f.2.1 = 0
  · rw [if_pos h1, if_pos h1, if_neg (by omega)]
    decide
  · rw [if_neg h1, if_neg h1]
    by_cases h2 : f.1 = f.2.2 ∧ f.2.1 = f.1
    · rw [if_pos h2, if_pos ⟨h2.1, h2.2.symm⟩]
      decide
    · rw [if_neg h2, if_neg (fun z => h2 ⟨z.1, z.2.symm⟩)]
      decide
abbrev sp__law_owns : DSp := specF (fun f : I3 => [t3 f]) (fun f => 0 < f.1) fun f => .lst ((ownsL f).map t4)
theorem ok__law_owns {P : Program} {w : World} {K : PySem.W.Frag} {mg : Str → Option Value} {base : Heap} (T : Txt K mg)
    : Pm P w K mg base 1 "_law_owns" s__law_owns ["_law_least_here"] sp__law_owns := by
  obtain ⟨f, fd, F⟩ := T.t__law_owns
  refine ⟨f, fd, F, F.fn.okD sc__law_owns (fun ds Q ⟨p, e, _⟩ => by rw [e]; rfl) fun cdv A outer s H E hr => ⟨_, (dss_cons (ds_asg (dv 0) (dg_tup (n := 3) rfl (dgs_cons (dg_name 1 sc__law_owns.nd) (dgs_cons (dg_name 2 sc__law_owns.nd) (dgs_cons (dg_name 3 sc__law_owns.nd) dgs_nil))))) (dss_cons (ds_set 4 sc__law_owns.nd (de_lst (da_cons (de_tup (da_cons de_int (da_cons de_int (da_cons de_int (da_cons de_int da_nil))))) (da_cons (de_tup (da_cons (de_neg de_int) (da_cons de_int (da_cons de_int (da_cons (de_neg de_int) da_nil))))) da_nil)))) (dss_cons (ds_if (DW.dt (dw_and (dt_eq hr.units (dv 1) (dv 3)) (dw_and1 (dt_eq hr.units (dv 2) de_int)))) (dss_one (ds_set 4 sc__law_owns.nd (DF.de (df_cat (df_val (dv 4)) (df_lst (da_cons (de_tup (da_cons de_int (da_cons (de_neg de_int) (da_cons de_int (da_cons de_int da_nil))))) (da_cons (de_tup (da_cons de_int (da_cons de_int (da_cons (de_neg de_int) (da_cons de_int da_nil))))) da_nil))))))) dss_nil) (dss_cons (ds_if (DW.dt (dw_and (dt_eq hr.units (dv 1) (dv 3)) (dw_and1 (dt_eq hr.units (dv 1) (dv 2))))) (dss_one (ds_set 4 sc__law_owns.nd (DF.de (df_cat (df_val (dv 4)) (df_lst (da_cons (de_tup (da_cons de_int (da_cons (de_neg de_int) (da_cons de_int (da_cons de_int da_nil))))) (da_cons (de_tup (da_cons de_int (da_cons de_int (da_cons (de_neg de_int) (da_cons (de_neg de_int) da_nil))))) (da_cons (de_tup (da_cons de_int (da_cons de_int (da_cons (de_neg de_int) (da_cons de_int da_nil))))) (da_cons (de_tup (da_cons (de_neg de_int) (da_cons (de_neg de_int) (da_cons de_int (da_cons de_int da_nil))))) da_nil))))))))) dss_nil) (dss_one (ds_ret (dv 4))))))), fun ds Q h => ?_⟩⟩
  obtain ⟨⟨a, b, c⟩, rfl, h0, q⟩ := h
  have h0 : 0 < a := h0
  have q' := q _ rfl
  dsimp only [ownsL] at q'
  walk_at "go"
  have s4 : 4 ≤ sizeLine := size_ok (by decide)
  have s8 : 8 ≤ sizeLine := size_ok (by decide)
  have s2 : 2 ≤ sizeLine := size_ok (by decide)
  have s6 : 6 ≤ sizeLine := size_ok (by decide)
  refine ⟨s4, s4, s2, ?_⟩
  by_cases h1 : a = c
  · by_cases h2 : b = 0
    · rw [if_pos ⟨h1, h2⟩, if_neg (by omega)] at q'
      refine ift (decide_eq_true h1) (ift (decide_eq_true h2) ⟨⟨_, List.Mem.head _⟩, s4, s4, s2, s4, ift (decide_eq_true h1) (iff' (decide_eq_false (by omega)) ?_)⟩)
      exact q'
    · rw [if_neg (fun z => h2 z.2)] at q'
      refine ift (decide_eq_true h1) (iff' (decide_eq_false h2) (ift (decide_eq_true h1) ?_))
      by_cases h3 : a = b
      · rw [if_pos ⟨h1, h3⟩] at q'
        refine ift (decide_eq_true h3) ⟨⟨_, List.Mem.head _⟩, s4, s4, s4, s4, s4, s6, ?_⟩
        exact q'
      · rw [if_neg (fun z => h3 z.2)] at q'
        exact iff' (decide_eq_false h3) q'
  · rw [if_neg (fun z => h1 z.1), if_neg (fun z => h1 z.1)] at q'
    exact iff' (decide_eq_false h1) (iff' (decide_eq_false h1) q')
theorem wholes_all {nss : List (List Int)} {ρ : DEnv} {j : Nat} {Q : Dt → Prop} (h0 : ρ[j]? = some (some (.is (.lst (nss.map rowD'))))) (hl : nss.length ≤ 100) (h4 : ∀ r ∈ nss, r.length = 4) (hq : Q (.lst (nss.map rowD'))) :
    dComp [] (diSeq (dVar j)) (dTst (dCall sp__law_wholes (dCons (dVar 0) (dCons (dC (Dt.int 4)) dNil)))) (dVar 0) ρ Q := by
  refine dComp_filter (nss.map rowD') (fun _ => true) id (fun R hR => ?_) (by rw [List.length_map]; exact size_ok (by omega)) caught_nil (fun d hd R hR => ?_) (fun d hd hp R hR => hR) ?_
  · dsimp only [diSeq, dVar]
    rw [h0]
    exact hR
  · obtain ⟨r, hr, rfl⟩ := List.mem_map.mp hd
    unfold inner
    walk_at "rd"
    exact wholes_of r 4 (by rw [h4 r hr]; rfl) (by rw [h4 r hr]; decide) hR
  · rw [List.filter_eq_self.mpr (fun _ _ => rfl), List.map_id]
    exact hq
theorem opp_bowl {f : I3} (h : Bowl f) : Bowl (f.1, -f.2.1, f.2.2) := by
  refine ⟨h.1, ?_⟩
  have := h.2
  simp only [meas] at this ⊢
  grind
abbrev sp__law_good : DSp := spec (fun p : I3 × List I4 => [t3 p.1, .lst (p.2.map t4)]) (fun p => B3 1500 p.1 ∧ Bowl p.1 ∧ ∃ g T, Least g ∧ det T = 1 ∧ p.1 = mov g T ∧ p.2.length < 64 ∧ p.2.Perm ((ownL g).map fun t => thenV (backV T) (thenV t T))) fun _ d => d = .bl true
theorem ok__law_good {P : Program} {w : World} {K : PySem.W.Frag} {mg : Str → Option Value} {base : Heap} (T : Txt K mg)
    (G_own_turns : Pm P w K mg base 6 "own_turns" s_own_turns ["form"] sp_own_turns)
    (G__law_wholes : Pm P w K mg base 1 "_law_wholes" s__law_wholes ["_law_found", "_law_many"] sp__law_wholes)
    : Pm P w K mg base 7 "_law_good" s__law_good ["_law_form", "_law_due"] sp__law_good := by
  obtain ⟨f, fd, F⟩ := T.t__law_good
  refine ⟨f, fd, F, F.fn.okD sc__law_good (fun ds Q ⟨p, e, _⟩ => by rw [e]; rfl) fun cdv A outer s H E hr => ⟨_, (dss_cons (ds_fresh 2 sc__law_good.nd spec_mono G_own_turns (hr.mono (by decide)) rfl (da_cons (dv 0) da_nil)) (dss_cons (ds_if (dt_lend 2 (DW.dt (dw_or (dt_not (dt_val (de_isi T.z_isinstance T.z_list isi_list (dv 2)))) (dw_or1 (dt_ne hr.units (de_len T.z_len (da_cons (de_compI (comp_side (sc := defScope s__law_good) (NN := ["_law_form", "_law_due", "_law_found"]) (x := "_law_one") (N := []) (sl := []) rfl rfl (by decide +kernel)) rfl (di_lst (dv 2)) (fun cl C s0 H0 ex => (dt_val (de_callP spec_mono G__law_wholes (hr.mono (by decide)) rfl (da_cons (dv 0) (da_cons de_int da_nil))))) (fun cl C s0 H0 ex => (dv 0))) da_nil)) (de_len T.z_len (da_cons (dv 2) da_nil))))))) (dss_one (ds_ret de_bl)) dss_nil) (dss_cons (ds_if (dt_lend 2 (dt_ne hr.units (dv 2) (de_sortT T.z_sorted (da_cons (dv 1) da_nil)))) (dss_one (ds_ret de_bl)) dss_nil) (dss_cons (ds_expr (de_callP spec_mono G_own_turns (hr.mono (by decide)) rfl (da_cons (de_tup (da_cons (de_sub_ix (dv 0) de_int) (da_cons (de_neg (de_sub_ix (dv 0) de_int)) (da_cons (de_sub_ix (dv 0) de_int) da_nil)))) da_nil))) (dss_cons (ds_expr (de_callP spec_mono G_own_turns (hr.mono (by decide)) rfl (da_cons (de_tup (da_cons de_int (da_cons de_int (da_cons de_int da_nil)))) da_nil))) (dss_cons (ds_if (dt_lend 2 (dt_ne hr.units (dv 2) (de_sortT T.z_sorted (da_cons (dv 1) da_nil)))) (dss_one (ds_ret de_bl)) dss_nil) (dss_cons (ds_clr 2) (dss_one (ds_ret (de_eq hr.units (de_callP spec_mono G_own_turns (hr.mono (by decide)) rfl (da_cons (dv 0) da_nil)) (de_sortT T.z_sorted (da_cons (dv 1) da_nil)))))))))))), fun ds Q h => ?_⟩⟩
  obtain ⟨⟨f, D⟩, rfl, ⟨hf, hw, g, T, L, dT, rfl, l64, hp⟩, q⟩ := h
  have q' : Q (.bl true) := q _ rfl
  have l64 : D.length < 64 := l64
  have hw : Bowl (mov g T) := hw
  have hf : B3 1500 (mov g T) := hf
  have hp : D.Perm ((ownL g).map fun t => thenV (backV T) (thenV t T)) := hp
  have key : ∀ u, det u = 1 → Least (mov (mov g T) u) → OwnRows (mov g T) u = sortR (D.map r4) := fun u du Lu => by
    obtain ⟨e1, e2⟩ := own_carry L dT du Lu
    unfold OwnRows
    rw [e1]
    refine sortR_eq ?_
    have e3 : (ownL g).map (fun t => r4 (thenV (thenV u t) (backV u))) = ((ownL g).map fun t => thenV (backV T) (thenV t T)).map r4 := by
      rw [List.map_map]
      exact List.map_congr_left fun t ht => by rw [e2 t ht]; rfl
    rw [e3]
    exact (hp.map r4).symm
  have ed : D.map t4 = (D.map r4).map rowD' := by
    rw [List.map_map]
    rfl
  have hS : ∀ r ∈ sortR (D.map r4), r.length = 4 := fun r hr => by
    have := (sortR_perm (D.map r4)).mem_iff.mp hr
    obtain ⟨t, _, rfl⟩ := List.mem_map.mp this
    rfl
  have lS : (sortR (D.map r4)).length = D.length := by rw [(sortR_perm (D.map r4)).length_eq, List.length_map]
  have D0 : 2 ≤ D.length := by
    have := hp.length_eq
    rw [List.length_map] at this
    have := (ownL_len g).1
    omega
  have hne : ∃ r, Dt.tup r ∈ (sortR (D.map r4)).map rowD' := by
    cases h : sortR (D.map r4) with
    | nil => rw [h] at lS; simp at lS; omega
    | cons a b => exact ⟨a.map Dt.int, List.Mem.head _⟩
  have nil4 : ∀ r ∈ D.map r4, r ≠ [] := fun r hr => by
    obtain ⟨t, _, rfl⟩ := List.mem_map.mp hr
    simp [r4]
  have l64' : (D.map r4).length < 64 := by rw [List.length_map]; exact l64
  have ee : Dt.eqs ((sortR (D.map r4)).map rowD') ((sortR (D.map r4)).map rowD') = true := by rw [eqs_rows]; exact decide_eq_true rfl
  have ff : Dt.flats 7 ((sortR (D.map r4)).map rowD') = true := flats_rows 6 _
  walk_at "go"
  refine ⟨by simp only [noLs_c, noLs_n, noL_t, noL_i, Bool.and_true], spec_of (mov g T) ⟨hf, hw⟩ ?_⟩
  rintro _ ⟨u, du, Lu, bu, rfl⟩
  rw [key u du Lu]
  refine ⟨_, rfl, hne, noLs_rows 3 _, wholes_all (j := 2) rfl (by omega) hS ?_⟩
  refine iff' (by simp) ⟨D.map r4, by rw [ed], l64', nil4, ⟨ff, ff⟩, iff' (by rw [ee]; rfl) ⟨size_ok (by decide), spec_of ((mov g T).1, -(mov g T).2.1, (mov g T).2.2) ⟨⟨hf.1, hf.2.1.neg, hf.2.2⟩, opp_bowl hw⟩ fun _ _ => ⟨size_ok (by decide), spec_of (1, 1, 1) ⟨⟨Bt.one.le (by decide), Bt.one.le (by decide), Bt.one.le (by decide)⟩, by decide, by decide⟩ fun _ _ => ⟨D.map r4, by rw [ed], l64', nil4, ⟨ff, ff⟩, iff' (by rw [ee]; rfl) ?_⟩⟩⟩⟩
  refine spec_of (mov g T) ⟨hf, hw⟩ ?_
  rintro _ ⟨u2, du2, Lu2, bu2, rfl⟩
  rw [key u2 du2 Lu2]
  walk_at "rd"
  refine ⟨D.map r4, by rw [ed], l64', nil4, ?_⟩
  walk_at "rd"
  exact ⟨⟨ff, ff⟩, by rw [ee]; exact q'⟩
theorem far30 (x : Int) : Bt 100 (x.fmod (2 * 10 ^ Int.toNat 30 + 1) - 10 ^ Int.toNat 30) := by
  have h := fm_range x (m := 2 * 10 ^ Int.toNat 30 + 1) (by decide)
  have e : (10 ^ Int.toNat 30 : Int) < 2 ^ 100 := by decide
  exact Bt.of (by omega) (by omega)
theorem fm3 (x : Int) : Bt 100 (x.fmod 3 - 1) := by
  have h := fm_range x (m := 3) (by decide)
  exact Bt.of (by omega) (by omega)

theorem ok_law {P : Program} {w : World} {K : PySem.W.Frag} {mg : Str → Option Value} {base : Heap} (T : Txt K mg)
    (G__law_least : Pm P w K mg base 2 "_law_least" s__law_least ["_law_cells"] sp__law_least)
    (G__law_turn : Pm P w K mg base 1 "_law_turn" s__law_turn ["_law_first", "_law_cells"] sp__law_turn)
    (G__law_owns : Pm P w K mg base 1 "_law_owns" s__law_owns ["_law_least_here"] sp__law_owns)
    (G__law_then : Pm P w K mg base 1 "_law_then" s__law_then ["_law_one", "_law_other"] sp__law_then)
    (G__law_good : Pm P w K mg base 7 "_law_good" s__law_good ["_law_form", "_law_due"] sp__law_good)
    (G__law_cell : Pm P w K mg base 1 "_law_cell" s__law_cell ["_law_script", "_law_k"] sp__law_cell)
    (G__law_moved : Pm P w K mg base 2 "_law_moved" s__law_moved ["_law_form", "_law_turn_here"] sp__law_moved)
    : Pm P w K mg base 8 "law" s_law ["_law_script"] sp_law := by
  obtain ⟨f, fd, F⟩ := T.t_law
  refine ⟨f, fd, F, F.fn.okD sc_law (fun ds Q ⟨p, e, _⟩ => by rw [e]; rfl) fun cdv A outer s H E hr => ⟨_, (dss_cons (ds_set 1 sc_law.nd (de_callP spec_mono G__law_least (hr.mono (by decide)) rfl (da_cons (de_comp (comp_side (sc := defScope s_law) (NN := ["_law_script", "_law_least_here", "_law_first", "_law_turn_here", "_law_way", "_law_owns_here", "_law_due"]) (x := "_law_k") (N := ["_law_script"]) (sl := [0]) rfl rfl (by decide +kernel)) rfl (di_rng1 rfl T.z_range (da_cons de_int da_nil)) (fun cl C s0 H0 ex => (de_callP spec_mono G__law_cell (hr.mono (by decide)) rfl (da_cons (dv 1) (da_cons (dv 0) da_nil))))) da_nil))) (dss_cons (ds_set 2 sc_law.nd (de_sub (de_mod (de_callP spec_mono G__law_cell (hr.mono (by decide)) rfl (da_cons (dv 0) (da_cons de_int da_nil))) (de_add (de_mul de_int (de_pow de_int de_int)) de_int)) (de_pow de_int de_int))) (dss_cons (ds_if (dt_eq hr.units (de_mod (de_callP spec_mono G__law_cell (hr.mono (by decide)) rfl (da_cons (dv 0) (da_cons de_int da_nil))) de_int) de_int) (dss_one (ds_set 2 sc_law.nd (de_sub (de_mod (de_div (de_callP spec_mono G__law_cell (hr.mono (by decide)) rfl (da_cons (dv 0) (da_cons de_int da_nil))) de_int) de_int) de_int))) dss_nil) (dss_cons (ds_set 3 sc_law.nd (de_callP spec_mono G__law_turn (hr.mono (by decide)) rfl (da_cons (dv 2) (da_cons (de_slice (dv 0) (dp_some de_int) (dp_some de_int)) da_nil)))) (dss_cons (ds_set 4 sc_law.nd (de_tup (da_cons (de_sub_ix (dv 3) de_int) (da_cons (de_neg (de_sub_ix (dv 3) de_int)) (da_cons (de_neg (de_sub_ix (dv 3) de_int)) (da_cons (de_sub_ix (dv 3) de_int) da_nil)))))) (dss_cons (ds_set 5 sc_law.nd (de_callP spec_mono G__law_owns (hr.mono (by decide)) rfl (da_cons (dv 1) da_nil))) (dss_cons (ds_setC 6 sc_law.nd (comp_side (sc := defScope s_law) (NN := ["_law_script", "_law_least_here", "_law_first", "_law_turn_here", "_law_way", "_law_owns_here", "_law_due"]) (x := "_law_own") (N := ["_law_way", "_law_turn_here"]) (sl := [4, 3]) rfl rfl (by decide +kernel)) rfl (di_lst (dv 5)) (fun cl C s0 H0 ex => (de_callP spec_mono G__law_then (hr.mono (by decide)) rfl (da_cons (dv 1) (da_cons (de_callP spec_mono G__law_then (hr.mono (by decide)) rfl (da_cons (dv 0) (da_cons (dv 2) da_nil))) da_nil))))) (dss_one (ds_ret (de_and (de_callP spec_mono G__law_good (hr.mono (by decide)) rfl (da_cons (de_callP spec_mono G__law_moved (hr.mono (by decide)) rfl (da_cons (dv 1) (da_cons (dv 3) da_nil))) (da_cons (dv 6) da_nil))) (de_one (de_callP spec_mono G__law_good (hr.mono (by decide)) rfl (da_cons (dv 1) (da_cons (dv 5) da_nil)))))))))))))), fun ds Q h => ?_⟩⟩
  obtain ⟨ns, rfl, hn, q⟩ := h
  have hn : ns.length ≤ 63 := hn
  have q' : Q (.bl true) := q _ rfl
  have cp : CPow 10 30 := ⟨by decide, by decide, by decide⟩
  have m3 : IntMulOk 2 (10 ^ Int.toNat 30) := Bt.mulOk (n := 2) (m := 100) (by unfold Bt; decide) (by unfold Bt; decide)
  obtain ⟨cs, ec, hcs⟩ := cut_ints ns (some 5) (some 63)
  walk_at "go"
  rw [ec]
  refine comp_cells 4 (by decide) rfl ?_
  refine spec_of (_, _, _, _) trivial ?_
  rintro _ ⟨f, rfl, hL, hf⟩
  refine cell_of ns 4 (by decide) ⟨cp, m3, ?_⟩
  walk_at "rd"
  refine ⟨by decide, cp, cell_of ns 4 (by decide) ?_⟩
  walk_at "rd"
  have f0 := far30 (ns.getD (Int.toNat 4) 0)
  have f1 := fm3 ((ns.getD (Int.toNat 4) 0).fdiv 3)
  have h0 := hL.1
  refine ⟨by decide, ite2 (fun _ => cell_of ns 4 (by decide) ⟨⟨by decide, by decide⟩, by decide, ?_⟩) (fun _ => ?_)⟩
  all_goals
    refine spec_of (_, cs) ⟨by assumption, by show cs.length ≤ 63; omega⟩ ?_
    rintro _ ⟨t, rfl, dt, bt⟩
    walk_at "rd"
    refine ⟨size_ok (by decide), specF_of f h0 ?_⟩
    have pm := owns_perm hL
    have lo : (ownsL f).length ≤ 6 := by rw [pm.length_eq]; exact (ownL_len f).2
    refine dComp_map ((ownsL f).map t4) (fun d => match d with
      | .tup [.int a, .int b, .int c, .int e] => t4 (thenV (backV t) (thenV (a, b, c, e) t))
      | _ => .non) (fun R hR => hR) (by rw [List.length_map]; exact size_ok (by omega)) (caught_cons rfl (caught_cons rfl caught_nil)) (fun d hd R hR => ?_) ?_
    · obtain ⟨o, ho, rfl⟩ := List.mem_map.mp hd
      have bo := ownL_bt (pm.mem_iff.mp ho)
      unfold inner
      walk_at "rd"
      refine specF_of (o, t) ⟨bo.le (by decide), bt.le (by decide)⟩ ?_
      exact specF_of (backV t, thenV o t) ⟨bt.back.le (by decide), (bo.then bt).le (by decide)⟩ hR
    · have em : ((ownsL f).map t4).map (fun d => match d with
        | .tup [.int a, .int b, .int c, .int e] => t4 (thenV (backV t) (thenV (a, b, c, e) t))
        | _ => .non) = ((ownsL f).map fun o => thenV (backV t) (thenV o t)).map t4 := by
        rw [List.map_map, List.map_map]
        rfl
      rw [em]
      refine specF_of (f, t) ⟨hf.le (by decide), bt.le (by decide)⟩ ?_
      refine spec_of (mov f t, (ownsL f).map fun o => thenV (backV t) (thenV o t)) ⟨(B3.mov hf bt).le (by decide), bowl_mov hL.bowl dt, f, t, hL, dt, rfl, by rw [List.length_map]; omega, pm.map fun o => thenV (backV t) (thenV o t)⟩ ?_
      rintro _ rfl
      refine ift rfl (spec_of (f, ownsL f) ⟨hf.le (by decide), hL.bowl, f, (1, 0, 0, 1), hL, rfl, mov_same.symm, by show (ownsL f).length < 64; omega, ?_⟩ ?_)
      · show (ownsL f).Perm ((ownL f).map fun t => thenV (backV (1, 0, 0, 1)) (thenV t (1, 0, 0, 1)))
        have e0 : (ownL f).map (fun t => thenV (backV (1, 0, 0, 1)) (thenV t (1, 0, 0, 1))) = ownL f := by
          have : ∀ t ∈ ownL f, thenV (backV (1, 0, 0, 1)) (thenV t (1, 0, 0, 1)) = id t := fun t _ => by
            rw [then_same]
            exact same_then
          rw [List.map_congr_left this, List.map_id]
        rw [e0]
        exact pm
      · rintro _ rfl
        exact q'
set_option maxHeartbeats 8000000 in
theorem all_mk {l : PySem.W.OpenLaw} {w : World} {K : PySem.W.Frag} {h : Heap} {mg : Str → Option Value} {fa : Addr} (X : K.In h) (G : h.Ns mainGlobals mg) (hfa : mg "law" = some (.ref fa))
    {f0 : Addr} {od0 an0 : Option Addr} {sl0 : Array (Option Value)} {oc0 kV0 dc0 pm0 cd0 ct0 : Value}
    (a0 : PySem.W.nsIn K mainGlobals "root" = some (some (.ref f0))) (l0 : K.lookup f0 = some ⟨oc0, od0, .func (PySem.W.fnOf "root" "root" (defArgs s_root) (defBody s_root) (defScope s_root) .none kV0 dc0 pm0 an0 cd0 ct0), sl0⟩) (c0 : PySem.W.codeIn K cd0 "root" = true) (k0 : PySem.W.keepIn K (.ref f0) = true)
    {f1 : Addr} {od1 an1 : Option Addr} {sl1 : Array (Option Value)} {oc1 kV1 dc1 pm1 cd1 ct1 : Value}
    (a1 : PySem.W.nsIn K mainGlobals "is_square" = some (some (.ref f1))) (l1 : K.lookup f1 = some ⟨oc1, od1, .func (PySem.W.fnOf "is_square" "is_square" (defArgs s_is_square) (defBody s_is_square) (defScope s_is_square) .none kV1 dc1 pm1 an1 cd1 ct1), sl1⟩) (c1 : PySem.W.codeIn K cd1 "is_square" = true) (k1 : PySem.W.keepIn K (.ref f1) = true)
    {f2 : Addr} {od2 an2 : Option Addr} {sl2 : Array (Option Value)} {oc2 kV2 dc2 pm2 cd2 ct2 : Value}
    (a2 : PySem.W.nsIn K mainGlobals "is_turn" = some (some (.ref f2))) (l2 : K.lookup f2 = some ⟨oc2, od2, .func (PySem.W.fnOf "is_turn" "is_turn" (defArgs s_is_turn) (defBody s_is_turn) (defScope s_is_turn) .none kV2 dc2 pm2 an2 cd2 ct2), sl2⟩) (c2 : PySem.W.codeIn K cd2 "is_turn" = true) (k2 : PySem.W.keepIn K (.ref f2) = true)
    {f3 : Addr} {od3 an3 : Option Addr} {sl3 : Array (Option Value)} {oc3 kV3 dc3 pm3 cd3 ct3 : Value}
    (a3 : PySem.W.nsIn K mainGlobals "check_turn" = some (some (.ref f3))) (l3 : K.lookup f3 = some ⟨oc3, od3, .func (PySem.W.fnOf "check_turn" "check_turn" (defArgs s_check_turn) (defBody s_check_turn) (defScope s_check_turn) .none kV3 dc3 pm3 an3 cd3 ct3), sl3⟩) (c3 : PySem.W.codeIn K cd3 "check_turn" = true) (k3 : PySem.W.keepIn K (.ref f3) = true)
    {f4 : Addr} {od4 an4 : Option Addr} {sl4 : Array (Option Value)} {oc4 kV4 dc4 pm4 cd4 ct4 : Value}
    (a4 : PySem.W.nsIn K mainGlobals "put_behind" = some (some (.ref f4))) (l4 : K.lookup f4 = some ⟨oc4, od4, .func (PySem.W.fnOf "put_behind" "put_behind" (defArgs s_put_behind) (defBody s_put_behind) (defScope s_put_behind) .none kV4 dc4 pm4 an4 cd4 ct4), sl4⟩) (c4 : PySem.W.codeIn K cd4 "put_behind" = true) (k4 : PySem.W.keepIn K (.ref f4) = true)
    {f5 : Addr} {od5 an5 : Option Addr} {sl5 : Array (Option Value)} {oc5 kV5 dc5 pm5 cd5 ct5 : Value}
    (a5 : PySem.W.nsIn K mainGlobals "back" = some (some (.ref f5))) (l5 : K.lookup f5 = some ⟨oc5, od5, .func (PySem.W.fnOf "back" "back" (defArgs s_back) (defBody s_back) (defScope s_back) .none kV5 dc5 pm5 an5 cd5 ct5), sl5⟩) (c5 : PySem.W.codeIn K cd5 "back" = true) (k5 : PySem.W.keepIn K (.ref f5) = true)
    {f6 : Addr} {od6 an6 : Option Addr} {sl6 : Array (Option Value)} {oc6 kV6 dc6 pm6 cd6 ct6 : Value}
    (a6 : PySem.W.nsIn K mainGlobals "measure" = some (some (.ref f6))) (l6 : K.lookup f6 = some ⟨oc6, od6, .func (PySem.W.fnOf "measure" "measure" (defArgs s_measure) (defBody s_measure) (defScope s_measure) .none kV6 dc6 pm6 an6 cd6 ct6), sl6⟩) (c6 : PySem.W.codeIn K cd6 "measure" = true) (k6 : PySem.W.keepIn K (.ref f6) = true)
    {f7 : Addr} {od7 an7 : Option Addr} {sl7 : Array (Option Value)} {oc7 kV7 dc7 pm7 cd7 ct7 : Value}
    (a7 : PySem.W.nsIn K mainGlobals "value" = some (some (.ref f7))) (l7 : K.lookup f7 = some ⟨oc7, od7, .func (PySem.W.fnOf "value" "value" (defArgs s_value) (defBody s_value) (defScope s_value) .none kV7 dc7 pm7 an7 cd7 ct7), sl7⟩) (c7 : PySem.W.codeIn K cd7 "value" = true) (k7 : PySem.W.keepIn K (.ref f7) = true)
    {f8 : Addr} {od8 an8 : Option Addr} {sl8 : Array (Option Value)} {oc8 kV8 dc8 pm8 cd8 ct8 : Value}
    (a8 : PySem.W.nsIn K mainGlobals "moved" = some (some (.ref f8))) (l8 : K.lookup f8 = some ⟨oc8, od8, .func (PySem.W.fnOf "moved" "moved" (defArgs s_moved) (defBody s_moved) (defScope s_moved) .none kV8 dc8 pm8 an8 cd8 ct8), sl8⟩) (c8 : PySem.W.codeIn K cd8 "moved" = true) (k8 : PySem.W.keepIn K (.ref f8) = true)
    {f9 : Addr} {od9 an9 : Option Addr} {sl9 : Array (Option Value)} {oc9 kV9 dc9 pm9 cd9 ct9 : Value}
    (a9 : PySem.W.nsIn K mainGlobals "middle" = some (some (.ref f9))) (l9 : K.lookup f9 = some ⟨oc9, od9, .func (PySem.W.fnOf "middle" "middle" (defArgs s_middle) (defBody s_middle) (defScope s_middle) .none kV9 dc9 pm9 an9 cd9 ct9), sl9⟩) (c9 : PySem.W.codeIn K cd9 "middle" = true) (k9 : PySem.W.keepIn K (.ref f9) = true)
    {f10 : Addr} {od10 an10 : Option Addr} {sl10 : Array (Option Value)} {oc10 kV10 dc10 pm10 cd10 ct10 : Value}
    (a10 : PySem.W.nsIn K mainGlobals "shape" = some (some (.ref f10))) (l10 : K.lookup f10 = some ⟨oc10, od10, .func (PySem.W.fnOf "shape" "shape" (defArgs s_shape) (defBody s_shape) (defScope s_shape) .none kV10 dc10 pm10 an10 cd10 ct10), sl10⟩) (c10 : PySem.W.codeIn K cd10 "shape" = true) (k10 : PySem.W.keepIn K (.ref f10) = true)
    {f11 : Addr} {od11 an11 : Option Addr} {sl11 : Array (Option Value)} {oc11 kV11 dc11 pm11 cd11 ct11 : Value}
    (a11 : PySem.W.nsIn K mainGlobals "check_bowl" = some (some (.ref f11))) (l11 : K.lookup f11 = some ⟨oc11, od11, .func (PySem.W.fnOf "check_bowl" "check_bowl" (defArgs s_check_bowl) (defBody s_check_bowl) (defScope s_check_bowl) .none kV11 dc11 pm11 an11 cd11 ct11), sl11⟩) (c11 : PySem.W.codeIn K cd11 "check_bowl" = true) (k11 : PySem.W.keepIn K (.ref f11) = true)
    {f12 : Addr} {od12 an12 : Option Addr} {sl12 : Array (Option Value)} {oc12 kV12 dc12 pm12 cd12 ct12 : Value}
    (a12 : PySem.W.nsIn K mainGlobals "stands_least" = some (some (.ref f12))) (l12 : K.lookup f12 = some ⟨oc12, od12, .func (PySem.W.fnOf "stands_least" "stands_least" (defArgs s_stands_least) (defBody s_stands_least) (defScope s_stands_least) .none kV12 dc12 pm12 an12 cd12 ct12), sl12⟩) (c12 : PySem.W.codeIn K cd12 "stands_least" = true) (k12 : PySem.W.keepIn K (.ref f12) = true)
    {f13 : Addr} {od13 an13 : Option Addr} {sl13 : Array (Option Value)} {oc13 kV13 dc13 pm13 cd13 ct13 : Value}
    (a13 : PySem.W.nsIn K mainGlobals "settled" = some (some (.ref f13))) (l13 : K.lookup f13 = some ⟨oc13, od13, .func (PySem.W.fnOf "settled" "settled" (defArgs s_settled) (defBody s_settled) (defScope s_settled) .none kV13 dc13 pm13 an13 cd13 ct13), sl13⟩) (c13 : PySem.W.codeIn K cd13 "settled" = true) (k13 : PySem.W.keepIn K (.ref f13) = true)
    {f14 : Addr} {od14 an14 : Option Addr} {sl14 : Array (Option Value)} {oc14 kV14 dc14 pm14 cd14 ct14 : Value}
    (a14 : PySem.W.nsIn K mainGlobals "turn_lower" = some (some (.ref f14))) (l14 : K.lookup f14 = some ⟨oc14, od14, .func (PySem.W.fnOf "turn_lower" "turn_lower" (defArgs s_turn_lower) (defBody s_turn_lower) (defScope s_turn_lower) .none kV14 dc14 pm14 an14 cd14 ct14), sl14⟩) (c14 : PySem.W.codeIn K cd14 "turn_lower" = true) (k14 : PySem.W.keepIn K (.ref f14) = true)
    {f15 : Addr} {od15 an15 : Option Addr} {sl15 : Array (Option Value)} {oc15 kV15 dc15 pm15 cd15 ct15 : Value}
    (a15 : PySem.W.nsIn K mainGlobals "own_turns" = some (some (.ref f15))) (l15 : K.lookup f15 = some ⟨oc15, od15, .func (PySem.W.fnOf "own_turns" "own_turns" (defArgs s_own_turns) (defBody s_own_turns) (defScope s_own_turns) .none kV15 dc15 pm15 an15 cd15 ct15), sl15⟩) (c15 : PySem.W.codeIn K cd15 "own_turns" = true) (k15 : PySem.W.keepIn K (.ref f15) = true)
    {f16 : Addr} {od16 an16 : Option Addr} {sl16 : Array (Option Value)} {oc16 kV16 dc16 pm16 cd16 ct16 : Value}
    (a16 : PySem.W.nsIn K mainGlobals "turns_of_least" = some (some (.ref f16))) (l16 : K.lookup f16 = some ⟨oc16, od16, .func (PySem.W.fnOf "turns_of_least" "turns_of_least" (defArgs s_turns_of_least) (defBody s_turns_of_least) (defScope s_turns_of_least) .none kV16 dc16 pm16 an16 cd16 ct16), sl16⟩) (c16 : PySem.W.codeIn K cd16 "turns_of_least" = true) (k16 : PySem.W.keepIn K (.ref f16) = true)
    {f17 : Addr} {od17 an17 : Option Addr} {sl17 : Array (Option Value)} {oc17 kV17 dc17 pm17 cd17 ct17 : Value}
    (a17 : PySem.W.nsIn K mainGlobals "turning_of_least" = some (some (.ref f17))) (l17 : K.lookup f17 = some ⟨oc17, od17, .func (PySem.W.fnOf "turning_of_least" "turning_of_least" (defArgs s_turning_of_least) (defBody s_turning_of_least) (defScope s_turning_of_least) .none kV17 dc17 pm17 an17 cd17 ct17), sl17⟩) (c17 : PySem.W.codeIn K cd17 "turning_of_least" = true) (k17 : PySem.W.keepIn K (.ref f17) = true)
    {f18 : Addr} {od18 an18 : Option Addr} {sl18 : Array (Option Value)} {oc18 kV18 dc18 pm18 cd18 ct18 : Value}
    (a18 : PySem.W.nsIn K mainGlobals "_law_cell" = some (some (.ref f18))) (l18 : K.lookup f18 = some ⟨oc18, od18, .func (PySem.W.fnOf "_law_cell" "_law_cell" (defArgs s__law_cell) (defBody s__law_cell) (defScope s__law_cell) .none kV18 dc18 pm18 an18 cd18 ct18), sl18⟩) (c18 : PySem.W.codeIn K cd18 "_law_cell" = true) (k18 : PySem.W.keepIn K (.ref f18) = true)
    {f19 : Addr} {od19 an19 : Option Addr} {sl19 : Array (Option Value)} {oc19 kV19 dc19 pm19 cd19 ct19 : Value}
    (a19 : PySem.W.nsIn K mainGlobals "_law_wholes" = some (some (.ref f19))) (l19 : K.lookup f19 = some ⟨oc19, od19, .func (PySem.W.fnOf "_law_wholes" "_law_wholes" (defArgs s__law_wholes) (defBody s__law_wholes) (defScope s__law_wholes) .none kV19 dc19 pm19 an19 cd19 ct19), sl19⟩) (c19 : PySem.W.codeIn K cd19 "_law_wholes" = true) (k19 : PySem.W.keepIn K (.ref f19) = true)
    {f20 : Addr} {od20 an20 : Option Addr} {sl20 : Array (Option Value)} {oc20 kV20 dc20 pm20 cd20 ct20 : Value}
    (a20 : PySem.W.nsIn K mainGlobals "_law_number" = some (some (.ref f20))) (l20 : K.lookup f20 = some ⟨oc20, od20, .func (PySem.W.fnOf "_law_number" "_law_number" (defArgs s__law_number) (defBody s__law_number) (defScope s__law_number) .none kV20 dc20 pm20 an20 cd20 ct20), sl20⟩) (c20 : PySem.W.codeIn K cd20 "_law_number" = true) (k20 : PySem.W.keepIn K (.ref f20) = true)
    {f21 : Addr} {od21 an21 : Option Addr} {sl21 : Array (Option Value)} {oc21 kV21 dc21 pm21 cd21 ct21 : Value}
    (a21 : PySem.W.nsIn K mainGlobals "_law_least" = some (some (.ref f21))) (l21 : K.lookup f21 = some ⟨oc21, od21, .func (PySem.W.fnOf "_law_least" "_law_least" (defArgs s__law_least) (defBody s__law_least) (defScope s__law_least) .none kV21 dc21 pm21 an21 cd21 ct21), sl21⟩) (c21 : PySem.W.codeIn K cd21 "_law_least" = true) (k21 : PySem.W.keepIn K (.ref f21) = true)
    {f22 : Addr} {od22 an22 : Option Addr} {sl22 : Array (Option Value)} {oc22 kV22 dc22 pm22 cd22 ct22 : Value}
    (a22 : PySem.W.nsIn K mainGlobals "_law_turn" = some (some (.ref f22))) (l22 : K.lookup f22 = some ⟨oc22, od22, .func (PySem.W.fnOf "_law_turn" "_law_turn" (defArgs s__law_turn) (defBody s__law_turn) (defScope s__law_turn) .none kV22 dc22 pm22 an22 cd22 ct22), sl22⟩) (c22 : PySem.W.codeIn K cd22 "_law_turn" = true) (k22 : PySem.W.keepIn K (.ref f22) = true)
    {f23 : Addr} {od23 an23 : Option Addr} {sl23 : Array (Option Value)} {oc23 kV23 dc23 pm23 cd23 ct23 : Value}
    (a23 : PySem.W.nsIn K mainGlobals "_law_value" = some (some (.ref f23))) (l23 : K.lookup f23 = some ⟨oc23, od23, .func (PySem.W.fnOf "_law_value" "_law_value" (defArgs s__law_value) (defBody s__law_value) (defScope s__law_value) .none kV23 dc23 pm23 an23 cd23 ct23), sl23⟩) (c23 : PySem.W.codeIn K cd23 "_law_value" = true) (k23 : PySem.W.keepIn K (.ref f23) = true)
    {f24 : Addr} {od24 an24 : Option Addr} {sl24 : Array (Option Value)} {oc24 kV24 dc24 pm24 cd24 ct24 : Value}
    (a24 : PySem.W.nsIn K mainGlobals "_law_moved" = some (some (.ref f24))) (l24 : K.lookup f24 = some ⟨oc24, od24, .func (PySem.W.fnOf "_law_moved" "_law_moved" (defArgs s__law_moved) (defBody s__law_moved) (defScope s__law_moved) .none kV24 dc24 pm24 an24 cd24 ct24), sl24⟩) (c24 : PySem.W.codeIn K cd24 "_law_moved" = true) (k24 : PySem.W.keepIn K (.ref f24) = true)
    {f25 : Addr} {od25 an25 : Option Addr} {sl25 : Array (Option Value)} {oc25 kV25 dc25 pm25 cd25 ct25 : Value}
    (a25 : PySem.W.nsIn K mainGlobals "_law_then" = some (some (.ref f25))) (l25 : K.lookup f25 = some ⟨oc25, od25, .func (PySem.W.fnOf "_law_then" "_law_then" (defArgs s__law_then) (defBody s__law_then) (defScope s__law_then) .none kV25 dc25 pm25 an25 cd25 ct25), sl25⟩) (c25 : PySem.W.codeIn K cd25 "_law_then" = true) (k25 : PySem.W.keepIn K (.ref f25) = true)
    {f26 : Addr} {od26 an26 : Option Addr} {sl26 : Array (Option Value)} {oc26 kV26 dc26 pm26 cd26 ct26 : Value}
    (a26 : PySem.W.nsIn K mainGlobals "_law_owns" = some (some (.ref f26))) (l26 : K.lookup f26 = some ⟨oc26, od26, .func (PySem.W.fnOf "_law_owns" "_law_owns" (defArgs s__law_owns) (defBody s__law_owns) (defScope s__law_owns) .none kV26 dc26 pm26 an26 cd26 ct26), sl26⟩) (c26 : PySem.W.codeIn K cd26 "_law_owns" = true) (k26 : PySem.W.keepIn K (.ref f26) = true)
    {f27 : Addr} {od27 an27 : Option Addr} {sl27 : Array (Option Value)} {oc27 kV27 dc27 pm27 cd27 ct27 : Value}
    (a27 : PySem.W.nsIn K mainGlobals "_law_good" = some (some (.ref f27))) (l27 : K.lookup f27 = some ⟨oc27, od27, .func (PySem.W.fnOf "_law_good" "_law_good" (defArgs s__law_good) (defBody s__law_good) (defScope s__law_good) .none kV27 dc27 pm27 an27 cd27 ct27), sl27⟩) (c27 : PySem.W.codeIn K cd27 "_law_good" = true) (k27 : PySem.W.keepIn K (.ref f27) = true)
    {f28 : Addr} {od28 an28 : Option Addr} {sl28 : Array (Option Value)} {oc28 kV28 dc28 pm28 cd28 ct28 : Value}
    (a28 : PySem.W.nsIn K mainGlobals "law" = some (some (.ref f28))) (l28 : K.lookup f28 = some ⟨oc28, od28, .func (PySem.W.fnOf "law" "law" (defArgs s_law) (defBody s_law) (defScope s_law) .none kV28 dc28 pm28 an28 cd28 ct28), sl28⟩) (c28 : PySem.W.codeIn K cd28 "law" = true) (k28 : PySem.W.keepIn K (.ref f28) = true)
    (z_abs : PySem.W.nsIn K mainGlobals "abs" = some none)
    (z_bool : PySem.W.nsIn K mainGlobals "bool" = some none)
    (z_int : PySem.W.nsIn K mainGlobals "int" = some none)
    (z_isinstance : PySem.W.nsIn K mainGlobals "isinstance" = some none)
    (z_len : PySem.W.nsIn K mainGlobals "len" = some none)
    (z_list : PySem.W.nsIn K mainGlobals "list" = some none)
    (z_range : PySem.W.nsIn K mainGlobals "range" = some none)
    (z_sorted : PySem.W.nsIn K mainGlobals "sorted" = some none)
    (z_tuple : PySem.W.nsIn K mainGlobals "tuple" = some none)
    {C_SAME : Addr} {od_SAME : Option Addr} {sl_SAME : Array (Option Value)} {n_SAME : Nat} {t_SAME_0 : Tok} {t_SAME_1 : Tok} {t_SAME_2 : Tok} {t_SAME_3 : Tok}
    (a_SAME : PySem.W.nsIn K mainGlobals "SAME" = some (some (.ref C_SAME))) (l_SAME : K.lookup C_SAME = some ⟨.type "tuple", od_SAME, .seq #[.int (1) t_SAME_0, .int (0) t_SAME_1, .int (0) t_SAME_2, .int (1) t_SAME_3] n_SAME, sl_SAME⟩)
    : ∃ fd : FuncData, (∀ (s : Shared) (v : Value), BindsTo s fd ⟨[v], []⟩ [("_law_script", v)]) ∧ ∀ base : Heap, K.In base → base.Ns mainGlobals mg → FnOk l.prog w K mg base CX0 8 fa fd ["_law_script"] (lSp K sp_law) := by
  have e := hfa.symm.trans (PySem.W.mg_of X G a28)
  cases e
  have F0 := fun_mk (st := s_root) l0 c0 k0
  have F1 := fun_mk (st := s_is_square) l1 c1 k1
  have F2 := fun_mk (st := s_is_turn) l2 c2 k2
  have F3 := fun_mk (st := s_check_turn) l3 c3 k3
  have F4 := fun_mk (st := s_put_behind) l4 c4 k4
  have F5 := fun_mk (st := s_back) l5 c5 k5
  have F6 := fun_mk (st := s_measure) l6 c6 k6
  have F7 := fun_mk (st := s_value) l7 c7 k7
  have F8 := fun_mk (st := s_moved) l8 c8 k8
  have F9 := fun_mk (st := s_middle) l9 c9 k9
  have F10 := fun_mk (st := s_shape) l10 c10 k10
  have F11 := fun_mk (st := s_check_bowl) l11 c11 k11
  have F12 := fun_mk (st := s_stands_least) l12 c12 k12
  have F13 := fun_mk (st := s_settled) l13 c13 k13
  have F14 := fun_mk (st := s_turn_lower) l14 c14 k14
  have F15 := fun_mk (st := s_own_turns) l15 c15 k15
  have F16 := fun_mk (st := s_turns_of_least) l16 c16 k16
  have F17 := fun_mk (st := s_turning_of_least) l17 c17 k17
  have F18 := fun_mk (st := s__law_cell) l18 c18 k18
  have F19 := fun_mk (st := s__law_wholes) l19 c19 k19
  have F20 := fun_mk (st := s__law_number) l20 c20 k20
  have F21 := fun_mk (st := s__law_least) l21 c21 k21
  have F22 := fun_mk (st := s__law_turn) l22 c22 k22
  have F23 := fun_mk (st := s__law_value) l23 c23 k23
  have F24 := fun_mk (st := s__law_moved) l24 c24 k24
  have F25 := fun_mk (st := s__law_then) l25 c25 k25
  have F26 := fun_mk (st := s__law_owns) l26 c26 k26
  have F27 := fun_mk (st := s__law_good) l27 c27 k27
  have F28 := fun_mk (st := s_law) l28 c28 k28
  have T : Txt K mg := {
    t_root := ⟨_, _, F0, PySem.W.mg_of X G a0, F0.binds (ps := ["number"]) fun _ _ _ _ _ _ us hl => match us, hl with | [_], _ => rfl⟩
    t_is_square := ⟨_, _, F1, PySem.W.mg_of X G a1, F1.binds (ps := ["number"]) fun _ _ _ _ _ _ us hl => match us, hl with | [_], _ => rfl⟩
    t_is_turn := ⟨_, _, F2, PySem.W.mg_of X G a2, F2.binds (ps := ["turn"]) fun _ _ _ _ _ _ us hl => match us, hl with | [_], _ => rfl⟩
    t_check_turn := ⟨_, _, F3, PySem.W.mg_of X G a3, F3.binds (ps := ["turn"]) fun _ _ _ _ _ _ us hl => match us, hl with | [_], _ => rfl⟩
    t_put_behind := ⟨_, _, F4, PySem.W.mg_of X G a4, F4.binds (ps := ["one", "other"]) fun _ _ _ _ _ _ us hl => match us, hl with | [_, _], _ => rfl⟩
    t_back := ⟨_, _, F5, PySem.W.mg_of X G a5, F5.binds (ps := ["turn"]) fun _ _ _ _ _ _ us hl => match us, hl with | [_], _ => rfl⟩
    t_measure := ⟨_, _, F6, PySem.W.mg_of X G a6, F6.binds (ps := ["form"]) fun _ _ _ _ _ _ us hl => match us, hl with | [_], _ => rfl⟩
    t_value := ⟨_, _, F7, PySem.W.mg_of X G a7, F7.binds (ps := ["form", "point"]) fun _ _ _ _ _ _ us hl => match us, hl with | [_, _], _ => rfl⟩
    t_moved := ⟨_, _, F8, PySem.W.mg_of X G a8, F8.binds (ps := ["form", "turn"]) fun _ _ _ _ _ _ us hl => match us, hl with | [_, _], _ => rfl⟩
    t_middle := ⟨_, _, F9, PySem.W.mg_of X G a9, F9.binds (ps := ["form", "left", "right"]) fun _ _ _ _ _ _ us hl => match us, hl with | [_, _, _], _ => rfl⟩
    t_shape := ⟨_, _, F10, PySem.W.mg_of X G a10, F10.binds (ps := ["form"]) fun _ _ _ _ _ _ us hl => match us, hl with | [_], _ => rfl⟩
    t_check_bowl := ⟨_, _, F11, PySem.W.mg_of X G a11, F11.binds (ps := ["form"]) fun _ _ _ _ _ _ us hl => match us, hl with | [_], _ => rfl⟩
    t_stands_least := ⟨_, _, F12, PySem.W.mg_of X G a12, F12.binds (ps := ["form"]) fun _ _ _ _ _ _ us hl => match us, hl with | [_], _ => rfl⟩
    t_settled := ⟨_, _, F13, PySem.W.mg_of X G a13, F13.binds (ps := ["form"]) fun _ _ _ _ _ _ us hl => match us, hl with | [_], _ => rfl⟩
    t_turn_lower := ⟨_, _, F14, PySem.W.mg_of X G a14, F14.binds (ps := ["form"]) fun _ _ _ _ _ _ us hl => match us, hl with | [_], _ => rfl⟩
    t_own_turns := ⟨_, _, F15, PySem.W.mg_of X G a15, F15.binds (ps := ["form"]) fun _ _ _ _ _ _ us hl => match us, hl with | [_], _ => rfl⟩
    t_turns_of_least := ⟨_, _, F16, PySem.W.mg_of X G a16, F16.binds (ps := ["form"]) fun _ _ _ _ _ _ us hl => match us, hl with | [_], _ => rfl⟩
    t_turning_of_least := ⟨_, _, F17, PySem.W.mg_of X G a17, F17.binds (ps := ["form"]) fun _ _ _ _ _ _ us hl => match us, hl with | [_], _ => rfl⟩
    t__law_cell := ⟨_, _, F18, PySem.W.mg_of X G a18, F18.binds (ps := ["_law_script", "_law_k"]) fun _ _ _ _ _ _ us hl => match us, hl with | [_, _], _ => rfl⟩
    t__law_wholes := ⟨_, _, F19, PySem.W.mg_of X G a19, F19.binds (ps := ["_law_found", "_law_many"]) fun _ _ _ _ _ _ us hl => match us, hl with | [_, _], _ => rfl⟩
    t__law_number := ⟨_, _, F20, PySem.W.mg_of X G a20, F20.binds (ps := ["_law_cell_here"]) fun _ _ _ _ _ _ us hl => match us, hl with | [_], _ => rfl⟩
    t__law_least := ⟨_, _, F21, PySem.W.mg_of X G a21, F21.binds (ps := ["_law_cells"]) fun _ _ _ _ _ _ us hl => match us, hl with | [_], _ => rfl⟩
    t__law_turn := ⟨_, _, F22, PySem.W.mg_of X G a22, F22.binds (ps := ["_law_first", "_law_cells"]) fun _ _ _ _ _ _ us hl => match us, hl with | [_, _], _ => rfl⟩
    t__law_value := ⟨_, _, F23, PySem.W.mg_of X G a23, F23.binds (ps := ["_law_form", "_law_x", "_law_y"]) fun _ _ _ _ _ _ us hl => match us, hl with | [_, _, _], _ => rfl⟩
    t__law_moved := ⟨_, _, F24, PySem.W.mg_of X G a24, F24.binds (ps := ["_law_form", "_law_turn_here"]) fun _ _ _ _ _ _ us hl => match us, hl with | [_, _], _ => rfl⟩
    t__law_then := ⟨_, _, F25, PySem.W.mg_of X G a25, F25.binds (ps := ["_law_one", "_law_other"]) fun _ _ _ _ _ _ us hl => match us, hl with | [_, _], _ => rfl⟩
    t__law_owns := ⟨_, _, F26, PySem.W.mg_of X G a26, F26.binds (ps := ["_law_least_here"]) fun _ _ _ _ _ _ us hl => match us, hl with | [_], _ => rfl⟩
    t__law_good := ⟨_, _, F27, PySem.W.mg_of X G a27, F27.binds (ps := ["_law_form", "_law_due"]) fun _ _ _ _ _ _ us hl => match us, hl with | [_, _], _ => rfl⟩
    t_law := ⟨_, _, F28, PySem.W.mg_of X G a28, F28.binds (ps := ["_law_script"]) fun _ _ _ _ _ _ us hl => match us, hl with | [_], _ => rfl⟩
    z_abs := PySem.W.mg_none_of X G z_abs
    z_bool := PySem.W.mg_none_of X G z_bool
    z_int := PySem.W.mg_none_of X G z_int
    z_isinstance := PySem.W.mg_none_of X G z_isinstance
    z_len := PySem.W.mg_none_of X G z_len
    z_list := PySem.W.mg_none_of X G z_list
    z_range := PySem.W.mg_none_of X G z_range
    z_sorted := PySem.W.mg_none_of X G z_sorted
    z_tuple := PySem.W.mg_none_of X G z_tuple
    k_SAME := ⟨_, PySem.W.mg_of X G a_SAME, fun H => rp_tup.mpr ⟨_, [.int (1), .int (0), .int (0), .int (1)], rfl, .inr ⟨_, _, _, l_SAME, rfl, rfl, size_ok (by show 4 ≤ 1000; decide), .cons ⟨_, rfl⟩ (.cons ⟨_, rfl⟩ (.cons ⟨_, rfl⟩ (.cons ⟨_, rfl⟩ (.nil))))⟩, RpL.cons (rp_int.mpr rfl) (RpL.cons (rp_int.mpr rfl) (RpL.cons (rp_int.mpr rfl) (RpL.cons (rp_int.mpr rfl) (RpL.nil))))⟩⟩
  }
  refine ⟨PySem.W.fnOf "law" "law" (defArgs s_law) (defBody s_law) (defScope s_law) .none kV28 dc28 pm28 an28 cd28 ct28, fun s v => .of_eq rfl, fun base kb nb => ?_⟩
  have g_root := ok_root (P := l.prog) (w := w) (base := base) T 
  have g_is_turn := ok_is_turn (P := l.prog) (w := w) (base := base) T 
  have g_put_behind := ok_put_behind (P := l.prog) (w := w) (base := base) T 
  have g_measure := ok_measure (P := l.prog) (w := w) (base := base) T 
  have g_value := ok_value (P := l.prog) (w := w) (base := base) T 
  have g_middle := ok_middle (P := l.prog) (w := w) (base := base) T 
  have g_stands_least := ok_stands_least (P := l.prog) (w := w) (base := base) T 
  have g_turn_lower := ok_turn_lower (P := l.prog) (w := w) (base := base) T 
  have g_turning_of_least := ok_turning_of_least (P := l.prog) (w := w) (base := base) T 
  have g__law_cell := ok__law_cell (P := l.prog) (w := w) (base := base) T 
  have g__law_wholes := ok__law_wholes (P := l.prog) (w := w) (base := base) T 
  have g__law_number := ok__law_number (P := l.prog) (w := w) (base := base) T 
  have g__law_turn := ok__law_turn (P := l.prog) (w := w) (base := base) T 
  have g__law_value := ok__law_value (P := l.prog) (w := w) (base := base) T 
  have g__law_then := ok__law_then (P := l.prog) (w := w) (base := base) T 
  have g__law_owns := ok__law_owns (P := l.prog) (w := w) (base := base) T 
  have g_is_square := ok_is_square (P := l.prog) (w := w) (base := base) T g_root
  have g_check_turn := ok_check_turn (P := l.prog) (w := w) (base := base) T g_is_turn
  have g_turns_of_least := ok_turns_of_least (P := l.prog) (w := w) (base := base) T g_turning_of_least g_put_behind
  have g__law_least := ok__law_least (P := l.prog) (w := w) (base := base) T g__law_number
  have g__law_moved := ok__law_moved (P := l.prog) (w := w) (base := base) T g__law_value
  have g_back := ok_back (P := l.prog) (w := w) (base := base) T g_check_turn
  have g_moved := ok_moved (P := l.prog) (w := w) (base := base) T g_check_turn g_value g_middle
  have g_shape := ok_shape (P := l.prog) (w := w) (base := base) T g_measure g_is_square
  have g_check_bowl := ok_check_bowl (P := l.prog) (w := w) (base := base) T g_shape
  have g_settled := ok_settled (P := l.prog) (w := w) (base := base) T g_check_bowl g_stands_least g_turn_lower g_moved g_put_behind
  have g_own_turns := ok_own_turns (P := l.prog) (w := w) (base := base) T g_settled g_back g_put_behind g_turns_of_least
  have g__law_good := ok__law_good (P := l.prog) (w := w) (base := base) T g_own_turns g__law_wholes
  have g_law := ok_law (P := l.prog) (w := w) (base := base) T g__law_least g__law_turn g__law_owns g__law_then g__law_good g__law_cell g__law_moved
  obtain ⟨f, fd, FT, GG⟩ := g_law
  have e1 := FT.mg.symm.trans (PySem.W.mg_of X G a28)
  cases e1
  have e2 := FT.fn.uniq F28
  subst e2
  exact GG
theorem walk {l : PySem.W.OpenLaw} {q : Program} {loose : List Str} {XP : (Str → Option Value) → Heap → Prop} {YP : World → Heap → Prop} {d : DefRec} {K : Params → PySem.W.Frag} (hn : l.most = some 63) (hdf : d.params.defaults = [])
    (hY : ∀ (w : World) (h : Heap), YP w h → (K w.params).In h)
    (F : ∀ (w : World) (mg : Str → Option Value) (fa : Addr) (h : Heap), (K w.params).In h → h.Ns mainGlobals mg → mg d.name = some (.ref fa) →
      ∃ fd : FuncData, (∀ (s : Shared) (u : Value), BindsTo s fd ⟨[u], []⟩ [("_law_script", u)]) ∧ ∀ base : Heap, (K w.params).In base → base.Ns mainGlobals mg → FnOk l.prog w (K w.params) mg base CX0 8 fa fd ["_law_script"] (lSp (K w.params) sp_law)) :
    PySem.W.WalkO q loose XP YP l.row.toRowW d [] (fun f vs => PySem.call f vs) :=
  L2.walk_of (n := 63) (k := 8) (x := "_law_script") (CX := fun _ => CX0) (sp := fun w => lSp (K w.params) sp_law) hn (by decide) hdf ⟨rfl, by decide, by decide⟩ hY F (fun w H a ns hl _ hS => law_start hl hS) fun _ _ _ _ _ z => z
end My
open PySem PySem.W PyProof.Rows
set_option maxRecDepth 100000 in
set_option maxHeartbeats 0 in
theorem PySem.Challenge.cw_formcycle_k14_own_turns_holds : PySem.Challenge.rw_formcycle_k14_own_turns.Holds := by
  w_on
  refine holds_law (by kernel_rfl) fun said => ?_
  refine holds_open (r := PySem.Challenge.rw_formcycle_k14_own_turns.row) (q := My.vw) (loose := []) (Xt := fun s => xlAt My.vw [] s && recOk (RowW.records (PySem.Challenge.rw_formcycle_k14_own_turns.row.toRowW)) s) (XP := XL My.vw []) (Yf := Hook.obs (kHook My.KK My.asK (fun _ => by kernel_rfl))) (Ya := Hook.val (kHook My.KK My.asK (fun _ => by kernel_rfl))) (YP := Hook.says (kHook My.KK My.asK (fun _ => by kernel_rfl))) (N := 1942) My.hl (Hook.of (kHook My.KK My.asK (fun _ => by kernel_rfl))) (Hook.keeps (kHook My.KK My.asK (fun _ => by kernel_rfl))) (fun s e => xl_of s (Bool.and_eq_true_iff.mp e).1) XL.keeps (by rfl) (by rfl) (by rfl) (fun s e => recFacts_of (Bool.and_eq_true_iff.mp e).2) (by rfl) said (by decide +kernel) ⟨rfl, rfl, rfl, rfl, rfl, by decide +kernel⟩ ?hw ?hc
  (case hw => w_witness2)
  k_fill
  refine My.walk (l := PySem.Challenge.rw_formcycle_k14_own_turns) rfl rfl (fun w h Y => PySem.W.kIn_of Y) ?F
  case F =>
    intro w mg fa h KX G hmg
    refine' My.all_mk KX G hmg ?a0 ?l0 ?c0 ?k0 ?a1 ?l1 ?c1 ?k1 ?a2 ?l2 ?c2 ?k2 ?a3 ?l3 ?c3 ?k3 ?a4 ?l4 ?c4 ?k4 ?a5 ?l5 ?c5 ?k5 ?a6 ?l6 ?c6 ?k6 ?a7 ?l7 ?c7 ?k7 ?a8 ?l8 ?c8 ?k8 ?a9 ?l9 ?c9 ?k9 ?a10 ?l10 ?c10 ?k10 ?a11 ?l11 ?c11 ?k11 ?a12 ?l12 ?c12 ?k12 ?a13 ?l13 ?c13 ?k13 ?a14 ?l14 ?c14 ?k14 ?a15 ?l15 ?c15 ?k15 ?a16 ?l16 ?c16 ?k16 ?a17 ?l17 ?c17 ?k17 ?a18 ?l18 ?c18 ?k18 ?a19 ?l19 ?c19 ?k19 ?a20 ?l20 ?c20 ?k20 ?a21 ?l21 ?c21 ?k21 ?a22 ?l22 ?c22 ?k22 ?a23 ?l23 ?c23 ?k23 ?a24 ?l24 ?c24 ?k24 ?a25 ?l25 ?c25 ?k25 ?a26 ?l26 ?c26 ?k26 ?a27 ?l27 ?c27 ?k27 ?a28 ?l28 ?c28 ?k28 ?z_abs ?z_bool ?z_int ?z_isinstance ?z_len ?z_list ?z_range ?z_sorted ?z_tuple ?a_SAME ?l_SAME
    (case a0 => k_is)
    (case l0 => k_is)
    (case c0 => k_is)
    (case k0 => k_is)
    (case a1 => k_is)
    (case l1 => k_is)
    (case c1 => k_is)
    (case k1 => k_is)
    (case a2 => k_is)
    (case l2 => k_is)
    (case c2 => k_is)
    (case k2 => k_is)
    (case a3 => k_is)
    (case l3 => k_is)
    (case c3 => k_is)
    (case k3 => k_is)
    (case a4 => k_is)
    (case l4 => k_is)
    (case c4 => k_is)
    (case k4 => k_is)
    (case a5 => k_is)
    (case l5 => k_is)
    (case c5 => k_is)
    (case k5 => k_is)
    (case a6 => k_is)
    (case l6 => k_is)
    (case c6 => k_is)
    (case k6 => k_is)
    (case a7 => k_is)
    (case l7 => k_is)
    (case c7 => k_is)
    (case k7 => k_is)
    (case a8 => k_is)
    (case l8 => k_is)
    (case c8 => k_is)
    (case k8 => k_is)
    (case a9 => k_is)
    (case l9 => k_is)
    (case c9 => k_is)
    (case k9 => k_is)
    (case a10 => k_is)
    (case l10 => k_is)
    (case c10 => k_is)
    (case k10 => k_is)
    (case a11 => k_is)
    (case l11 => k_is)
    (case c11 => k_is)
    (case k11 => k_is)
    (case a12 => k_is)
    (case l12 => k_is)
    (case c12 => k_is)
    (case k12 => k_is)
    (case a13 => k_is)
    (case l13 => k_is)
    (case c13 => k_is)
    (case k13 => k_is)
    (case a14 => k_is)
    (case l14 => k_is)
    (case c14 => k_is)
    (case k14 => k_is)
    (case a15 => k_is)
    (case l15 => k_is)
    (case c15 => k_is)
    (case k15 => k_is)
    (case a16 => k_is)
    (case l16 => k_is)
    (case c16 => k_is)
    (case k16 => k_is)
    (case a17 => k_is)
    (case l17 => k_is)
    (case c17 => k_is)
    (case k17 => k_is)
    (case a18 => k_is)
    (case l18 => k_is)
    (case c18 => k_is)
    (case k18 => k_is)
    (case a19 => k_is)
    (case l19 => k_is)
    (case c19 => k_is)
    (case k19 => k_is)
    (case a20 => k_is)
    (case l20 => k_is)
    (case c20 => k_is)
    (case k20 => k_is)
    (case a21 => k_is)
    (case l21 => k_is)
    (case c21 => k_is)
    (case k21 => k_is)
    (case a22 => k_is)
    (case l22 => k_is)
    (case c22 => k_is)
    (case k22 => k_is)
    (case a23 => k_is)
    (case l23 => k_is)
    (case c23 => k_is)
    (case k23 => k_is)
    (case a24 => k_is)
    (case l24 => k_is)
    (case c24 => k_is)
    (case k24 => k_is)
    (case a25 => k_is)
    (case l25 => k_is)
    (case c25 => k_is)
    (case k25 => k_is)
    (case a26 => k_is)
    (case l26 => k_is)
    (case c26 => k_is)
    (case k26 => k_is)
    (case a27 => k_is)
    (case l27 => k_is)
    (case c27 => k_is)
    (case k27 => k_is)
    (case a28 => k_is)
    (case l28 => k_is)
    (case c28 => k_is)
    (case k28 => k_is)
    (case z_abs => k_is)
    (case z_bool => k_is)
    (case z_int => k_is)
    (case z_isinstance => k_is)
    (case z_len => k_is)
    (case z_list => k_is)
    (case z_range => k_is)
    (case z_sorted => k_is)
    (case z_tuple => k_is)
    (case a_SAME => k_is)
    (case l_SAME => k_is)

