import PyProof.Rows.All
import Wide.All
import OpenK.AllK
import Wide.FinOn
import Lean
import PyProof.EqAt
import PyProof.EqKinds
import PyProof.TupleCall
import PySem.Challenge.RW_lonewalks_k01_nets
set_option Elab.async false
set_option linter.all false
set_option maxRecDepth 100000
set_option maxHeartbeats 4000000
noncomputable section
namespace L2
open PySem
def defArgs (s : Stmt) : Arguments := match s with
  | .FunctionDef _ a _ _ _ _ _ _ _ _ => a
  | _ => { posonlyargs := [], args := [], vararg := none, kwonlyargs := [], kw_defaults := [], kwarg := none, defaults := [] }
def defBody (s : Stmt) : List Stmt := match s with
  | .FunctionDef _ _ b _ _ _ _ _ _ _ => b
  | _ => []
def defScope (s : Stmt) : Scope := match s with
  | .FunctionDef _ _ _ _ _ _ sc _ _ _ => sc
  | _ => { kind := .function, names := [], isGenerator := false, isCoroutine := false }
end L2
namespace Lw
open PySem
def top (i : Nat) : Stmt := PySem.Challenge.pw_lonewalks_k01_nets.main.body.getD i (.Pass ⟨0, 0, 0, 0⟩)
def inTop (i j : Nat) : Stmt := match top i with
  | .ClassDef _ _ _ b _ _ _ _ _ _ _ => b.getD j (.Pass ⟨0, 0, 0, 0⟩)
  | _ => .Pass ⟨0, 0, 0, 0⟩
end Lw
namespace Lw
open PySem PySem.W
section
variable {tb : String → Option Builtin} {p : Program} {w : World} {n₀ : Nat} {ann : Option Value}
def runT (tb : String → Option Builtin) (p : Program) (w : World) (n₀ : Nat) (ann : Option Value) : Nat → SharedT → Thread → Option SharedT
  | 0, _, _ => none
  | n + 1, s, t => match through t with
    | true => some s
    | false => match stepOk n₀ ann t with
      | false => none
      | true => match stepT (denote tb) p w s t with
        | some (s', t') => runT tb p w n₀ ann n s' t'
        | none => none
theorem runT_of (n : Nat) : ∀ (s r : SharedT) (t : Thread), runT tb p w n₀ ann n s t = some r → topRun tb p w n₀ ann n s.abs t = some r.abs := by
  induction n with
  | zero => intro s r t h; cases h
  | succ n ih =>
    intro s r t h
    unfold runT at h
    unfold topRun
    cases ht : through t with
    | true => rw [ht] at h; cases h; rfl
    | false =>
      rw [ht] at h
      cases hk : stepOk n₀ ann t with
      | false => rw [hk] at h; cases h
      | true =>
        rw [hk] at h
        cases hs : stepT (denote tb) p w s t with
        | none => rw [hs] at h; cases h
        | some x =>
          rw [hs] at h
          have e := stepT_spec hs
          dsimp only
          rw [e]
          exact ih _ _ _ h
end
noncomputable def bootT (P : Params) : BT := (boot_heap P).objs.toList.zipIdx.foldl (fun t x => t.ins x.2 x.1) .nil
noncomputable def runB (tb : String → Option Builtin) (p : Program) (w : World) (N n : Nat) (life : Life) (ann : Option Value) (os : OsState) : Option SharedT := runT tb p w n ann N ⟨bootT w.params, n, life, Array.mk [], boot_drawn, boot_toks, os⟩ (topStub p)
theorem left_T {p q : Program} {loose : List Str} {Xt : Shared → Bool} {α : Type} {Yf : Shared → α} {Ya : World → α} {N n : Nat} {life : Life} {ann : Option Value}
    (e : opening p = plainProg p.main.scope.names) (hN : Nat.ble 600 N = true) (f : ∀ s, fenceModules? p s = some s)
    (ht : ∀ P, absHeap (bootT P) n life = boot_heap P)
    (size : ∀ P, ((boot_heap P).isNs mainGlobals, (boot_heap P).objs.size, (boot_heap P).nsMap mainGlobals "__annotations__") = (true, n, ann))
    (h1 : ∀ (w : World) (os : OsState), (runB treeTable p w N n life ann os).map (fun r => (staticsOk (importedModules p.main.body) (boot_heap w.params) r.abs.heap && namesBound p r.abs.heap && gensDone r.abs && laidKept (boot_heap w.params) r.abs.heap, Yf r.abs)) = some (true, Ya w))
    (h2 : ∀ (w : World) (os : OsState), (runB treeTable p w N n life ann os).map (fun r => (openSeen q loose (importedModules p.main.body) Xt true r.abs).1) = some (openGood q loose).1)
    (h3 : ∀ (w : World) (os : OsState), (runB treeTable p w N n life ann os).map (fun r => (openSeen q loose (importedModules p.main.body) Xt true r.abs).2) = some (openGood q loose).2) : LeftO p q loose Xt Yf Ya N := fun w => by
  obtain ⟨⟨hp, gs, d, k, os⟩, e1, e2⟩ := Option.map_eq_some_iff.mp (boot_open e hN f w)
  obtain ⟨rfl, rfl, rfl, rfl⟩ : hp = boot_heap w.params ∧ gs = Array.mk [] ∧ d = boot_drawn ∧ k = boot_toks := by simpa using e2
  obtain ⟨z1, z2, z3⟩ : _ ∧ _ ∧ _ := by simpa only [Prod.mk.injEq] using size w.params
  obtain ⟨r, hr, e3⟩ := Option.map_eq_some_iff.mp (h1 w os)
  obtain ⟨l1, l3⟩ : _ ∧ _ := by simpa only [Prod.mk.injEq] using e3
  have h2 := h2 w os
  have h3 := h3 w os
  rw [hr] at h2 h3
  have l2 := Prod.ext (Option.some.inj h2) (Option.some.inj h3)
  have t := runT_of _ _ _ _ hr
  have a : (⟨bootT w.params, n, life, Array.mk [], boot_drawn, boot_toks, os⟩ : SharedT).abs = ⟨boot_heap w.params, Array.mk [], boot_drawn, boot_toks, os⟩ := by unfold SharedT.abs; rw [ht]
  rw [a] at t
  have tf : topFrom treeTable p w N ⟨boot_heap w.params, Array.mk [], boot_drawn, boot_toks, os⟩ = some r.abs := by
    unfold topFrom
    dsimp only
    rw [z1, z2, z3, t]
    show (match staticsOk (importedModules p.main.body) (boot_heap w.params) r.abs.heap && namesBound p r.abs.heap && gensDone r.abs && laidKept (boot_heap w.params) r.abs.heap with | true => _ | false => _) = _
    rw [l1]
  unfold openEnds
  rw [e1]
  show (topFrom treeTable p w N _).map _ = _
  rw [tf]
  exact congrArg some (Prod.ext l2 l3)
end Lw
namespace Lw
open PySem L2
abbrev vS (s : String) (t : Tok) : Value := .str (.ofString s) t
abbrev eS (P : Params) (s : String) (t : Tok) (v : Value) : DictEntry := ⟨PyData.keyHash P (.ofString s), .str (.ofString s) t, v⟩
abbrev fD (n q : String) (st : Stmt) (dV kV doc pm : Value) (an : Option Addr) (cdv ct : Value) : FuncData := PySem.W.fnOf (.ofString n) (.ofString q) (defArgs st) (defBody st) (defScope st) dV kV doc pm an cdv ct
abbrev fO (n q : String) (st : Stmt) (m : String) (t c : Nat) : Obj := ⟨.type "function", none, .func (fD n q st .none .none .none (vS m t) none (.ref c) .none), #[]⟩
abbrev tO (l : List Value) : Obj := ⟨.type "tuple", none, .seq l.toArray 0, #[]⟩
abbrev cO (n : String) (t1 : Nat) (q : String) (t2 t3 l c r1 r2 : Nat) (a b d e : Value) (i j t4 : Nat) : Obj := ⟨.type "code", none, .fields #[vS n t1, vS q t2, vS "/claim/cut.py" t3, .int l 0, .int c 0, .int 0 0, .int 0 0, .int 3 0, .ref r1, .bool true, .int 181 0, .ref r2, a, b, d, e, .int i 0, .int j 0, vS "/claim/cut.py" t4], #[]⟩
noncomputable def khKeep : List Nat := [1, 2, 4, 5, 6, 7, 8, 9, 10, 12, 13, 14, 15, 16, 17, 18, 19, 20, 21, 22]
def khN : Nat := 2302
def khAs : List Nat := 2 :: 3 :: 6 :: 23 :: 24 :: 36 :: 37 :: 45 :: 46 :: 50 :: 51 :: 57 :: 58 :: 69 :: 70 :: 72 :: 73 :: 83 :: 84 :: 90 :: 91 :: 97 :: 98 :: 104 :: 105 :: 111 :: 112 :: 116 :: 117 :: 121 :: 122 :: 126 :: 127 :: 133 :: 134 :: 140 :: 141 :: 145 :: 146 :: []
noncomputable def khK : Params → PySem.W.Frag := fun P => (nat_lit 2, ⟨.none, none, .dict #[] 0, #[]⟩) :: (nat_lit 3, ⟨.type "dict", none, .dict #[eS P "__name__" 165 (vS "law_lonewalks_k01_nets" 286), eS P "__doc__" 166 .none, eS P "__package__" 167 .none, eS P "__loader__" 168 (.builtin "__main__.__loader__#opaque"), eS P "__spec__" 169 .none, eS P "__annotations__" 170 (.ref 6), eS P "__builtins__" 171 (.ref 4), eS P "__file__" 173 (vS "/claim/cut.py" 172), eS P "__cached__" 174 .none, eS P "WalkError" 206 (.ref 24), eS P "BadNet" 222 (.ref 37), eS P "MOST_SIDE" 226 (.int 8 225), eS P "MOST_WEIGHT" 228 (.int 1000 227), eS P "MOST_WALKERS" 230 (.int 4 229), eS P "check_side" 237 (.ref 46), eS P "check_steps" 243 (.ref 51), eS P "check_border" 253 (.ref 58), eS P "Net" 285 (.ref 73), eS P "_law_cell_at" 295 (.ref 84), eS P "_law_mix" 306 (.ref 91), eS P "_law_whole" 313 (.ref 98), eS P "_law_rows_by" 325 (.ref 105), eS P "_law_step_by" 335 (.ref 112), eS P "_law_parts_by" 341 (.ref 117), eS P "_law_net" 347 (.ref 122), eS P "_law_hurt_rows" 353 (.ref 127), eS P "_law_hurt_list" 362 (.ref 134), eS P "_law_hurt" 372 (.ref 141), eS P "law" 378 (.ref 146)] 29, #[]⟩) :: (nat_lit 6, ⟨.type "dict", none, .dict #[] 0, #[]⟩) :: (nat_lit 23, ⟨.type "dict", none, .dict #[eS P "__module__" 196 (vS "lonewalks.errors" 187), eS P "__firstlineno__" 200 (.int 2 199), eS P "__static_attributes__" 201 (.ref 22), eS P "__weakref__" 203 (.ref 25), eS P "__doc__" 204 .none] 3, #[]⟩) :: (nat_lit 24, ⟨.type "type", none, .cls ⟨.ofString "WalkError", [.type "ValueError"], [.ref 24, .type "ValueError", .type "Exception", .type "BaseException", .type "object"], 23, .ofString "WalkError", true, [], [.ref 37], false, none, false⟩, #[(some (.ref 15)), none, (some (vS "WalkError" 189)), (some (vS "WalkError" 197)), (some (.builtin "ValueError.__new__")), (some (.bool true))]⟩) :: (nat_lit 36, ⟨.type "dict", none, .dict #[eS P "__module__" 214 (vS "lonewalks.errors" 187), eS P "__firstlineno__" 218 (.int 4 217), eS P "__static_attributes__" 219 (.ref 35), eS P "__doc__" 220 .none] 2, #[]⟩) :: (nat_lit 37, ⟨.type "type", none, .cls ⟨.ofString "BadNet", [.ref 24], [.ref 37, .ref 24, .type "ValueError", .type "Exception", .type "BaseException", .type "object"], 36, .ofString "BadNet", true, [], [], false, none, false⟩, #[(some (.ref 28)), none, (some (vS "BadNet" 207)), (some (vS "BadNet" 215)), (some (.builtin "ValueError.__new__")), (some (.bool true))]⟩) :: (nat_lit 45, cO "check_side" 231 "check_side" 232 233 10 1 40 41 .none (.ref 42) (.ref 43) (.ref 44) 235 10 236) :: (nat_lit 46, fO "check_side" "check_side" (top 7) "lonewalks.nets" 223 45) :: (nat_lit 50, cO "check_steps" 238 "check_steps" 239 240 13 3 47 48 .none .none .none (.ref 49) 241 13 242) :: (nat_lit 51, fO "check_steps" "check_steps" (top 8) "lonewalks.nets" 223 50) :: (nat_lit 57, cO "check_border" 244 "check_border" 245 246 21 2 52 53 .none (.ref 54) (.ref 55) (.ref 56) 251 21 252) :: (nat_lit 58, fO "check_border" "check_border" (top 9) "lonewalks.nets" 223 57) :: (nat_lit 69, cO "__init__" 266 "Net.__init__" 267 268 31 5 66 67 .none .none .none (.ref 68) 269 31 270) :: (nat_lit 70, fO "__init__" "Net.__init__" (inTop 10 0) "lonewalks.nets" 223 69) :: (nat_lit 72, ⟨.type "dict", none, .dict #[eS P "__module__" 261 (vS "lonewalks.nets" 223), eS P "__firstlineno__" 265 (.int 29 264), eS P "__init__" 271 (.ref 70), eS P "__static_attributes__" 278 (.ref 71), eS P "__dict__" 280 (.ref 74), eS P "__weakref__" 282 (.ref 75), eS P "__doc__" 283 .none] 4, #[]⟩) :: (nat_lit 73, ⟨.type "type", none, .cls ⟨.ofString "Net", [.type "object"], [.ref 73, .type "object"], 72, .ofString "Net", true, [], [], false, none, false⟩, #[none, none, (some (vS "Net" 254)), (some (vS "Net" 262)), (some (.builtin "object.__new__")), (some (.bool true))]⟩) :: (nat_lit 83, cO "_law_cell_at" 288 "_law_cell_at" 289 290 49 2 78 79 .none (.ref 80) (.ref 81) (.ref 82) 293 49 294) :: (nat_lit 84, fO "_law_cell_at" "_law_cell_at" (top 12) "law_lonewalks_k01_nets" 286 83) :: (nat_lit 90, cO "_law_mix" 296 "_law_mix" 297 298 53 3 85 86 .none (.ref 87) (.ref 88) (.ref 89) 304 53 305) :: (nat_lit 91, fO "_law_mix" "_law_mix" (top 13) "law_lonewalks_k01_nets" 286 90) :: (nat_lit 97, cO "_law_whole" 307 "_law_whole" 308 309 58 1 92 93 .none (.ref 94) (.ref 95) (.ref 96) 311 58 312) :: (nat_lit 98, fO "_law_whole" "_law_whole" (top 14) "law_lonewalks_k01_nets" 286 97) :: (nat_lit 104, cO "_law_rows_by" 314 "_law_rows_by" 315 316 60 3 99 100 .none (.ref 101) (.ref 102) (.ref 103) 323 60 324) :: (nat_lit 105, fO "_law_rows_by" "_law_rows_by" (top 15) "law_lonewalks_k01_nets" 286 104) :: (nat_lit 111, cO "_law_step_by" 326 "_law_step_by" 327 328 66 3 106 107 .none (.ref 108) (.ref 109) (.ref 110) 333 66 334) :: (nat_lit 112, fO "_law_step_by" "_law_step_by" (top 16) "law_lonewalks_k01_nets" 286 111) :: (nat_lit 116, cO "_law_parts_by" 336 "_law_parts_by" 337 338 73 4 113 114 .none .none .none (.ref 115) 339 73 340) :: (nat_lit 117, fO "_law_parts_by" "_law_parts_by" (top 17) "law_lonewalks_k01_nets" 286 116) :: (nat_lit 121, cO "_law_net" 342 "_law_net" 343 344 87 1 118 119 .none .none .none (.ref 120) 345 87 346) :: (nat_lit 122, fO "_law_net" "_law_net" (top 18) "law_lonewalks_k01_nets" 286 121) :: (nat_lit 126, cO "_law_hurt_rows" 348 "_law_hurt_rows" 349 350 90 2 123 124 .none .none .none (.ref 125) 351 90 352) :: (nat_lit 127, fO "_law_hurt_rows" "_law_hurt_rows" (top 19) "law_lonewalks_k01_nets" 286 126) :: (nat_lit 133, cO "_law_hurt_list" 354 "_law_hurt_list" 355 356 102 3 128 129 .none (.ref 130) (.ref 131) (.ref 132) 360 102 361) :: (nat_lit 134, fO "_law_hurt_list" "_law_hurt_list" (top 20) "law_lonewalks_k01_nets" 286 133) :: (nat_lit 140, cO "_law_hurt" 363 "_law_hurt" 364 365 112 3 135 136 .none (.ref 137) (.ref 138) (.ref 139) 370 112 371) :: (nat_lit 141, fO "_law_hurt" "_law_hurt" (top 21) "law_lonewalks_k01_nets" 286 140) :: (nat_lit 145, cO "law" 373 "law" 374 375 119 1 142 143 .none .none .none (.ref 144) 376 119 377) :: (nat_lit 146, fO "law" "law" (top 22) "law_lonewalks_k01_nets" 286 145) :: []
def vw : Program := { PySem.Challenge.pw_lonewalks_k01_nets with main := { PySem.Challenge.pw_lonewalks_k01_nets.main with body := khKeep.map top } }
end Lw
noncomputable def PySem.W.Fast.tw8377093302996319118 : PySem.Program := PySem.Challenge.pw_lonewalks_k01_nets
theorem PySem.W.Fast.te8377093302996319118 : PySem.Challenge.pw_lonewalks_k01_nets = PySem.W.Fast.tw8377093302996319118 := rfl
namespace Lw
open PySem PySem.W PyProof.Rows
abbrev khL : Life := { debug := 0, thresholds := [2000, 10, 10] }
abbrev khX (s : Shared) : Bool := xlAt vw [] s && recOk (RowW.records (OpenRow.toRowW (OpenLaw.row PySem.Challenge.rw_lonewalks_k01_nets))) s
abbrev khH : Hook := kHook khK khAs (fun _ => by kernel_rfl)
set_option maxRecDepth 100000
theorem left1 (w : World) (os : OsState) : (runB treeTable (OpenLaw.row PySem.Challenge.rw_lonewalks_k01_nets).prog w khN 11 khL (some (.ref 6)) os).map (fun r => (staticsOk (importedModules (OpenLaw.row PySem.Challenge.rw_lonewalks_k01_nets).prog.main.body) (boot_heap w.params) r.abs.heap && namesBound (OpenLaw.row PySem.Challenge.rw_lonewalks_k01_nets).prog r.abs.heap && gensDone r.abs && laidKept (boot_heap w.params) r.abs.heap, khH.obs r.abs)) = some (true, khH.val w) := by
  rewrite [Fast.te5923862056798008813, Fast.te2368527892694137696, Fast.te14364793385576792824]
  kernel_rfl
theorem left2 (w : World) (os : OsState) : (runB treeTable (OpenLaw.row PySem.Challenge.rw_lonewalks_k01_nets).prog w khN 11 khL (some (.ref 6)) os).map (fun r => (openSeen vw [] (importedModules (OpenLaw.row PySem.Challenge.rw_lonewalks_k01_nets).prog.main.body) khX true r.abs).1) = some (openGood vw []).1 := by
  rewrite [Fast.te4187177175401517315, Fast.te5923862056798008813, Fast.te2368527892694137696, Fast.te14364793385576792824]
  kernel_rfl
theorem left3 (w : World) (os : OsState) : (runB treeTable (OpenLaw.row PySem.Challenge.rw_lonewalks_k01_nets).prog w khN 11 khL (some (.ref 6)) os).map (fun r => (openSeen vw [] (importedModules (OpenLaw.row PySem.Challenge.rw_lonewalks_k01_nets).prog.main.body) khX true r.abs).2) = some (openGood vw []).2 := by
  rewrite [Fast.te4187177175401517315, Fast.te5923862056798008813, Fast.te2368527892694137696, Fast.te14364793385576792824]
  kernel_rfl
theorem left : LeftO (OpenLaw.row PySem.Challenge.rw_lonewalks_k01_nets).prog vw [] khX khH.obs khH.val khN :=
  left_T (n := 11) (life := khL) (ann := some (.ref 6)) (by kernel_rfl) (by kernel_rfl) (fun s => by kernel_rfl) (fun P => by kernel_rfl) (fun P => by kernel_rfl) left1 left2 left3
end Lw
namespace L2
open PySem PySem.Spec PyProof.Rows
abbrev Key := Sum Int Str
def keyIs : Key → Value → Bool
  | .inl k, v => Value.isInt k v
  | .inr x, v => Value.isStrOf x v
def keyH (w : World) : Key → Int
  | .inl k => hashInt k
  | .inr x => hashStr w x
theorem keyIs_shape : ∀ {k : Key} {v : Value}, keyIs k v = true → (∃ i t, k = Sum.inl i ∧ v = Value.int i t) ∨ (∃ x t, k = Sum.inr x ∧ v = Value.str x t)
  | .inl i, v, h => by
    obtain ⟨t, e⟩ := Value.isInt_shape (k := i) (v := v) h
    exact .inl ⟨i, t, rfl, e⟩
  | .inr x, v, h => by
    obtain ⟨t, e⟩ := Value.isStrOf_shape (x := x) (v := v) h
    exact .inr ⟨x, t, rfl, e⟩
theorem key_ll (a b : Int) : decide ((Sum.inl a : Key) = Sum.inl b) = (a == b) := by
  by_cases e : a = b
  · subst e; simp
  · have h : ¬ (Sum.inl a : Key) = Sum.inl b := fun q => e (Sum.inl.inj q)
    rw [decide_eq_false h]
    exact (beq_eq_false_iff_ne.mpr e).symm
theorem key_rr (a b : Str) : decide ((Sum.inr a : Key) = Sum.inr b) = decide (a = b) := by
  by_cases e : a = b
  · subst e; simp
  · have h : ¬ (Sum.inr a : Key) = Sum.inr b := fun q => e (Sum.inr.inj q)
    rw [decide_eq_false h, decide_eq_false e]
theorem key_lr (a : Int) (b : Str) : decide ((Sum.inl a : Key) = Sum.inr b) = false := decide_eq_false (fun q => nomatch q)
theorem key_rl (a : Str) (b : Int) : decide ((Sum.inr a : Key) = Sum.inl b) = false := decide_eq_false (fun q => nomatch q)
def mixKind (prog : Program) (w : World) : PySem.KeyKind prog w Key where
  is := keyIs
  hash := keyH w
  inj := fun v a b ha hb => by
    rcases keyIs_shape ha with ⟨i, t, rfl, rfl⟩ | ⟨x, t, rfl, rfl⟩
    · rcases keyIs_shape hb with ⟨j, u, rfl, e⟩ | ⟨y, u, rfl, e⟩
      · injection e with e1 _; rw [e1]
      · exact nomatch e
    · rcases keyIs_shape hb with ⟨j, u, rfl, e⟩ | ⟨y, u, rfl, e⟩
      · exact nomatch e
      · injection e with e1 _; rw [e1]
  byValue := fun k v h => by
    rcases keyIs_shape h with ⟨i, t, rfl, rfl⟩ | ⟨x, t, rfl, rfl⟩ <;> rfl
  pyHash := fun hv h => by
    rcases keyIs_shape hv with ⟨i, t, rfl, rfl⟩ | ⟨x, t, rfl, rfl⟩
    · exact wpAny_pyHash_int h
    · exact wpAny_pyHash_str h
  eqBool := fun hu hv h => by
    rcases keyIs_shape hu with ⟨i, t, rfl, rfl⟩ | ⟨x, t, rfl, rfl⟩
    · rcases keyIs_shape hv with ⟨j, u, rfl, rfl⟩ | ⟨y, u, rfl, rfl⟩
      · rw [key_ll] at h; exact wpAny_eqBool_int h
      · rw [key_lr] at h; exact SeqAt.EqAt.int_str i t y u _ _ _ _ h
    · rcases keyIs_shape hv with ⟨j, u, rfl, rfl⟩ | ⟨y, u, rfl, rfl⟩
      · rw [key_rl] at h; exact SeqAt.EqAt.str_int x t j u _ _ _ _ h
      · rw [key_rr] at h; exact wpAny_eqBool_str h
  «strs» := fun k x t v h => by
    rcases keyIs_shape h with ⟨i, u, rfl, e⟩ | ⟨y, u, rfl, e⟩
    · exact nomatch e
    · injection e with e1 _
      subst e1
      cases v <;> rfl
end L2
namespace L2
open PySem PySem.Spec PyProof.Rows
inductive V where
  | non | bl (b : Bool) | int (i : Int) | str (x : Str) | byt (b : Array UInt8) | flt (b : UInt64) | ref (a : Addr) | ty (n : String)
  deriving DecidableEq
def RelV : V → Value → Prop
  | .non, u => u = Value.none
  | .bl b, u => u = Value.bool b
  | .int i, u => ∃ t, u = Value.int i t
  | .str x, u => ∃ t, u = Value.str x t
  | .byt b, u => ∃ t, u = Value.bytes b t
  | .flt b, u => ∃ t, u = Value.float b t
  | .ref a, u => u = Value.ref a
  | .ty n, u => u = Value.type n
abbrev Vals : List V → List Value → Prop := Paired RelV
theorem Vals.length {xs : List V} {us : List Value} (r : Vals xs us) : xs.length = us.length := Paired.length r
theorem Vals.get : ∀ {xs : List V} {us : List Value} {i : Nat} {x : V}, Vals xs us → xs[i]? = some x → ∃ u, us[i]? = some u ∧ RelV x u
  | _, _, _, _, .nil, e => by simp at e
  | _, _, 0, _, .cons r _, e => by simp at e; subst e; exact ⟨_, rfl, r⟩
  | _, _, i + 1, x, .cons _ t, e => by
    obtain ⟨u, h1, h2⟩ := Vals.get (i := i) (x := x) t (by simpa using e)
    exact ⟨u, by simpa using h1, h2⟩
theorem Vals.set {x : V} {u : Value} (r : RelV x u) : ∀ {xs : List V} {us : List Value} (i : Nat), Vals xs us → Vals (xs.set i x) (us.set i u)
  | _, _, _, .nil => .nil
  | _, _, 0, .cons _ t => .cons r t
  | _, _, i + 1, .cons q t => .cons q (Vals.set r i t)
theorem Vals.append : ∀ {xs ys : List V} {us ws : List Value}, Vals xs us → Vals ys ws → Vals (xs ++ ys) (us ++ ws)
  | _, _, _, _, .nil, s => s
  | _, _, _, _, .cons r t, s => .cons r (Vals.append t s)
theorem Vals.take : ∀ {xs : List V} {us : List Value} (n : Nat), Vals xs us → Vals (xs.take n) (us.take n)
  | _, _, 0, _ => .nil
  | _, _, _ + 1, .nil => .nil
  | _, _, n + 1, .cons r t => .cons r (Vals.take n t)
theorem Vals.drop : ∀ {xs : List V} {us : List Value} (n : Nat), Vals xs us → Vals (xs.drop n) (us.drop n)
  | _, _, 0, r => r
  | _, _, _ + 1, .nil => .nil
  | _, _, n + 1, .cons _ t => Vals.drop n t
def RelO : Option V → Option Value → Prop
  | some v, some u => RelV v u
  | none, none => True
  | _, _ => False
def KV {κ : Type} : List (κ × V) → List (κ × Value) → Prop := Paired fun (p : κ × V) (q : κ × Value) => p.1 = q.1 ∧ RelV p.2 q.2
def kV : Key → V
  | .inl i => .int i
  | .inr x => .str x
inductive HO where
  | lst (xs : List V)
  | tup (xs : List V)
  | dK (kvs : List (Key × V)) | dT (kvs : List (List Key × V))
  | set (S : Int → Bool) (n : Nat)
  | ins (C dx : Addr) (fs : List (Str × V))
  | own (x : Addr)
  | xd (fs : List (Str × V))
  | met (f x : Addr)
  | rng (lo hi : Int)
  | frz (o : Obj) (u : HO)
  | tbl (ps : Array Value)
  | ext (φ : Heap → Prop)
abbrev Hp := Addr → Option HO
def upd (H : Hp) (a : Addr) (o : HO) : Hp := fun b => if b = a then some o else H b
theorem upd_same {H : Hp} {a : Addr} {o : HO} : upd H a o a = some o := by unfold upd; rw [if_pos rfl]
theorem upd_ne {H : Hp} {a b : Addr} {o : HO} (h : b ≠ a) : upd H a o b = H b := by unfold upd; rw [if_neg h]
theorem ne_of_none {H : Hp} {a b : Addr} {o : HO} (h : H a = some o) (h' : H b = none) : a ≠ b := by
  intro e; subst e; rw [h] at h'; cases h'
section
variable (P : Program) (w : World)
def ObjOk (H : Hp) (h : Heap) (a : Addr) : HO → Prop
  | .lst xs => xs.length ≤ sizeLine ∧ ∃ (its : List Value) (n : Nat), Vals xs its ∧ h.get? a = some { cls := .type "list", data := .seq its.toArray n }
  | .tup xs => xs.length ≤ sizeLine ∧ ∃ its : List Value, Vals xs its ∧ IsTup h a its.toArray
  | .dK kvs => kvs.length ≤ sizeLine ∧ (a == sysModules) = false ∧ ∃ vs, KV kvs vs ∧ h.DictOf (mixKind P w) a vs
  | .dT kvs => kvs.length ≤ sizeLine ∧ (a == sysModules) = false ∧ ∃ xs : List (List Key × Addr × Value),
      Paired (fun (p : List Key × V) (q : List Key × Addr × Value) => p.1 = q.1 ∧ H q.2.1 = some (.tup (p.1.map kV)) ∧ RelV p.2 q.2.2) kvs xs ∧
      ∃ o es ep, h.get? a = some o ∧ o.ExactDict ∧ o.data = .dict es ep ∧ es.toList = xs.map (entryOfKey (tupleKind (mixKind P w))) ∧ (xs.map (·.1)).Nodup
  | .set S n => h.SetOf (intKind P w) a S n
  | .ins C dx fs => H dx = some (.own a) ∧ fs.length ≤ 1000 ∧ dx ≠ a ∧ h.get? a = some (PySem.W.instObj C dx) ∧
      ∃ mA, h.Ns1 dx mA ∧ (∀ f, RelO (fs.lookup f) (mA f)) ∧ PySem.Within mA (fs.map (·.1))
  | .own _ => ∃ o, h.get? a = some o
  | .xd fs => ∃ mA, h.Ns1 a mA ∧ ∀ f, RelO (fs.lookup f) (mA f)
  | .rng lo hi => ∃ t u v, h.get? a = some { cls := .type "range", data := .fields #[.int lo t, .int hi u, .int 1 v] }
  | .frz o u => h.get? a = some o ∧ ObjOk H h a u
  | .tbl ps => h.get? a = some { cls := .none, data := .fields ps }
  | .met f x => h.get? a = some (PySem.W.methodObj (.ref f) (.ref x))
  | .ext φ => φ h ∧ (∃ o, h.get? a = some o) ∧ ∀ h1 h2 : Heap, φ h1 → (∀ o, h1.get? a = some o → h2.get? a = some o) → φ h2
def HOk (H : Hp) (h : Heap) : Prop := ∀ a o, H a = some o → ObjOk P w H h a o
end
section
variable {P : Program} {w : World} {H H' : Hp} {h h' : Heap} {a : Addr} {o : HO}
theorem ObjOk.lt (x : ObjOk P w H h a o) : a < h.objs.size := by
  cases o with
  | lst xs => obtain ⟨_, _, _, _, e⟩ := x; exact Heap.lt_size e
  | tup xs => obtain ⟨_, _, _, p⟩ := x; exact p.lt
  | dK kvs => obtain ⟨_, _, _, _, o, _, _, e, _⟩ := x; exact Heap.lt_size e
  | dT kvs => obtain ⟨_, _, _, _, o, _, _, e, _⟩ := x; exact Heap.lt_size e
  | set S n => obtain ⟨o, _, _, _, e, _⟩ := x; exact Heap.lt_size e
  | ins C dx fs => obtain ⟨_, _, _, e, _⟩ := x; exact Heap.lt_size e
  | own y => obtain ⟨_, e⟩ := x; exact Heap.lt_size e
  | xd fs => obtain ⟨_, ⟨_, _, _, e, _⟩, _⟩ := x; exact Heap.lt_size e
  | rng lo hi => obtain ⟨_, _, _, e⟩ := x; exact Heap.lt_size e
  | frz ob u => obtain ⟨e, _⟩ := x; exact Heap.lt_size e
  | tbl ps => exact Heap.lt_size (show h.get? a = some _ from x)
  | met f y => exact Heap.lt_size (show h.get? a = some _ from x)
  | ext φ => obtain ⟨_, ⟨_, e⟩, _⟩ := x; exact Heap.lt_size e
theorem Paired.mapP {α β : Type} {F G : α → β → Prop} : ∀ {l₁ : List α} {l₂ : List β}, Paired F l₁ l₂ → (∀ a b, F a b → G a b) → Paired G l₁ l₂
  | _, _, .nil, _ => .nil
  | _, _, .cons r t, f => .cons (f _ _ r) (Paired.mapP t f)
theorem ObjOk.stay (x : ObjOk P w H h a o) (k : ∀ b u, (b = a ∨ H b = some (.own a)) → h.get? b = some u → h'.get? b = some u)
    (ho : ∀ b, H b = some (.own a) → H' b = some (.own a)) (ht : ∀ b xs, H b = some (.tup xs) → H' b = some (.tup xs)) : ObjOk P w H' h' a o := by
  induction o with
  | lst xs => obtain ⟨z, its, n, r, e⟩ := x; exact ⟨z, its, n, r, k _ _ (.inl rfl) e⟩
  | tup xs => obtain ⟨z, its, r, ob, e, c⟩ := x; exact ⟨z, its, r, ob, k _ _ (.inl rfl) e, c⟩
  | dK kvs => obtain ⟨z, y, vs, r, ob, es, ep, e, c⟩ := x; exact ⟨z, y, vs, r, ob, es, ep, k _ _ (.inl rfl) e, c⟩
  | dT kvs =>
    obtain ⟨z, y, xs, r, ob, es, ep, e, c⟩ := x
    exact ⟨z, y, xs, Paired.mapP r fun p q z => ⟨z.1, ht _ _ z.2.1, z.2.2⟩, ob, es, ep, k _ _ (.inl rfl) e, c⟩
  | set S n => obtain ⟨ob, es, ep, t, e, c⟩ := x; exact ⟨ob, es, ep, t, k _ _ (.inl rfl) e, c⟩
  | ins C dx fs =>
    obtain ⟨d, z, ne, e, mA, ⟨od, es, ep, e2, c⟩, r⟩ := x
    exact ⟨ho _ d, z, ne, k _ _ (.inl rfl) e, mA, ⟨od, es, ep, k _ _ (.inr d) e2, c⟩, r⟩
  | own y => obtain ⟨ob, e⟩ := x; exact ⟨ob, k _ _ (.inl rfl) e⟩
  | xd fs => obtain ⟨mA, ⟨od, es, ep, e, c⟩, r⟩ := x; exact ⟨mA, ⟨od, es, ep, k _ _ (.inl rfl) e, c⟩, r⟩
  | rng lo hi => obtain ⟨t, u, v, e⟩ := x; exact ⟨t, u, v, k _ _ (.inl rfl) e⟩
  | frz ob u ih => obtain ⟨e, q⟩ := x; exact ⟨k _ _ (.inl rfl) e, ih q⟩
  | tbl ps =>
    have e : h.get? a = some { cls := .none, data := .fields ps } := x
    show h'.get? a = some { cls := .none, data := .fields ps }
    exact k a _ (.inl rfl) e
  | met f y =>
    have e : h.get? a = some (PySem.W.methodObj (.ref f) (.ref y)) := x
    show h'.get? a = some (PySem.W.methodObj (.ref f) (.ref y))
    exact k a _ (.inl rfl) e
  | ext φ => obtain ⟨p, ⟨o, e⟩, st⟩ := x; exact ⟨st _ _ p fun o q => k _ _ (.inl rfl) q, ⟨o, k _ _ (.inl rfl) e⟩, st⟩
theorem HOk.lt (x : HOk P w H h) (e : H a = some o) : a < h.objs.size := (x a o e).lt
theorem HOk.fresh (x : HOk P w H h) (e : h.objs.size ≤ a) : H a = none := by
  cases q : H a with
  | none => rfl
  | some u => exact absurd (Nat.lt_of_lt_of_le (x.lt q) e) (Nat.lt_irrefl _)
theorem HOk.kept (x : HOk P w H h) (k : ∀ b u, h.get? b = some u → h'.get? b = some u) : HOk P w H h' := fun a o e =>
  (x a o e).stay (fun b u _ q => k b u q) (fun _ q => q) fun _ _ q => q
theorem HOk.laid (x : HOk P w H h) (k : ∀ b u, h.get? b = some u → h'.get? b = some u) (hp : h.objs.size ≤ a) (new : ObjOk P w (upd H a o) h' a o) : HOk P w (upd H a o) h' := fun b u e => by
  have hn := x.fresh hp
  by_cases hb : b = a
  · subst hb; rw [upd_same] at e; cases e; exact new
  · rw [upd_ne hb] at e
    exact (x b u e).stay (fun c v _ q => k c v q) (fun c q => by rw [upd_ne (ne_of_none q hn)]; exact q) fun c xs q => by rw [upd_ne (ne_of_none q hn)]; exact q
end
def Rd (H : Hp) (a : Addr) (u : HO) : Prop := H a = some u ∨ ∃ o, H a = some (.frz o u)
theorem Rd.ok {P : Program} {w : World} {H : Hp} {h : Heap} {a : Addr} {u : HO} (r : Rd H a u) (x : HOk P w H h) : ObjOk P w H h a u := by
  rcases r with r | ⟨o, r⟩
  · exact x a u r
  · obtain ⟨_, q⟩ := x a _ r
    exact q
def Mut : Option HO → Prop
  | some (.lst _) => True
  | some (.dK _) => True
  | some (.dT _) => True
  | some (.set _ _) => True
  | some (.ins _ _ _) => True
  | some (.ext _) => True
  | _ => False
section
variable {P : Program} {w : World} {H : Hp} {h h' : Heap} {x e : Addr} {o' : HO}
theorem HOk.write (ok : HOk P w H h) (mu : Mut (H x)) (he : e = x ∨ H e = some (.own x)) (k : ∀ b u, b ≠ e → h.get? b = some u → h'.get? b = some u) (heo : ∃ u, h'.get? e = some u)
    (new : ObjOk P w (upd H x o') h' x o') : HOk P w (upd H x o') h' := fun b u q => by
  have nown : ∀ c y, H c = some (.own y) → c ≠ x := fun c y r z => by subst z; rw [r] at mu; exact mu
  have ntup : ∀ c xs, H c = some (.tup xs) → c ≠ x := fun c xs r z => by subst z; rw [r] at mu; exact mu
  by_cases hb : b = x
  · subst hb; rw [upd_same] at q; cases q; exact new
  · rw [upd_ne hb] at q
    by_cases hbe : b = e
    · have q' : H b = some (.own x) := by
        rcases he with z | z
        · exact absurd (hbe.trans z) hb
        · rw [hbe]; exact z
      rw [q] at q'; cases q'
      obtain ⟨v, hv⟩ := heo
      exact ⟨v, by rw [hbe]; exact hv⟩
    · refine (ok b u q).stay (fun c v hc r => k c v ?_ r) (fun c r => by rw [upd_ne (nown c b r)]; exact r) fun c xs r => by rw [upd_ne (ntup c xs r)]; exact r
      rcases hc with rfl | hc
      · exact hbe
      · rintro rfl
        rcases he with z | z
        · exact nown c b hc z
        · rw [hc] at z; cases z; exact hb rfl
end
structure Un (fs ex : List Addr) (H H' : Hp) (h h' : Heap) : Prop where
  keep : ∀ b o, h.get? b = some o → H b = none → b ∉ fs → b ∉ ex → h'.get? b = some o
  slot : ∀ b o, h.get? b = some o → H b = none → b ∈ fs → b ∉ ex → ∃ sl, h'.get? b = some { o with slots := sl }
  free : ∀ b o, h.get? b = some o → H b = none → b ∉ ex → H' b = none
  there : ∀ b o, h.get? b = some o → b ∉ ex → ∃ o', h'.get? b = some o'
  tups : ∀ b xs, H b = some (.tup xs) → H' b = some (.tup xs)
  frzs : ∀ b o u, H b = some (.frz o u) → H' b = some (.frz o u)
  tbls : ∀ b ps, H b = some (.tbl ps) → ∃ more, H' b = some (.tbl (ps ++ more))
section
variable {fs fs' ex ex' : List Addr} {H H1 H2 : Hp} {h h1 h2 h' : Heap} {a x e : Addr} {o : HO}
theorem Un.any (u : Un fs ex H H1 h h1) {b : Addr} {ob : Obj} (q : h.get? b = some ob) (n : H b = none) (hx : b ∉ ex) : ∃ sl, h1.get? b = some { ob with slots := sl } := by
  by_cases hb : b ∈ fs
  · exact u.slot b ob q n hb hx
  · exact ⟨ob.slots, u.keep b ob q n hb hx⟩
theorem Un.trans (a : Un fs ex H H1 h h1) (b : Un fs ex H1 H2 h1 h2) : Un fs ex H H2 h h2 where
  keep := fun c ob q n hc hx => b.keep c ob (a.keep c ob q n hc hx) (a.free c ob q n hx) hc hx
  slot := fun c ob q n hc hx => by
    obtain ⟨sl, e1⟩ := a.slot c ob q n hc hx
    obtain ⟨sl', e2⟩ := b.slot c _ e1 (a.free c ob q n hx) hc hx
    exact ⟨sl', e2⟩
  free := fun c ob q n hx => by
    obtain ⟨o', e1⟩ := a.there c ob q hx
    exact b.free c o' e1 (a.free c ob q n hx) hx
  there := fun c ob q hx => by
    obtain ⟨o', e1⟩ := a.there c ob q hx
    exact b.there c o' e1 hx
  tups := fun c xs q => b.tups c xs (a.tups c xs q)
  frzs := fun c ob xs q => b.frzs c ob xs (a.frzs c ob xs q)
  tbls := fun c ps q => by
    obtain ⟨m1, e1⟩ := a.tbls c ps q
    obtain ⟨m2, e2⟩ := b.tbls c _ e1
    exact ⟨m1 ++ m2, by rw [e2, Array.append_assoc]⟩
theorem Un.kept (k : ∀ b u, h.get? b = some u → h'.get? b = some u) : Un fs ex H H h h' :=
  ⟨fun b ob q _ _ _ => k b ob q, fun b ob q _ _ _ => ⟨ob.slots, k b ob q⟩, fun _ _ _ n _ => n, fun b ob q _ => ⟨ob, k b ob q⟩, fun _ _ q => q, fun _ _ _ q => q, fun _ ps q => ⟨#[], by rw [q]; simp⟩⟩
theorem Un.refl : Un fs ex H H h h := Un.kept fun _ _ q => q
theorem Un.laid (k : ∀ b u, h.get? b = some u → h'.get? b = some u) (hp : h.objs.size ≤ a) (hn : H a = none) : Un fs ex H (upd H a o) h h' where
  keep := fun b u q _ _ _ => k b u q
  slot := fun b u q _ _ _ => ⟨u.slots, k b u q⟩
  free := fun b u q n _ => by rw [upd_ne (Nat.ne_of_lt (Nat.lt_of_lt_of_le (Heap.lt_size q) hp))]; exact n
  there := fun b u q _ => ⟨u, k b u q⟩
  tups := fun b xs q => by rw [upd_ne (ne_of_none q hn)]; exact q
  frzs := fun b u xs q => by rw [upd_ne (ne_of_none q hn)]; exact q
  tbls := fun b ps q => ⟨#[], by rw [upd_ne (ne_of_none q hn), q]; simp⟩
theorem Un.write (mu : Mut (H x)) (he : e = x ∨ H e = some (.own x)) (k : ∀ b u, b ≠ e → h.get? b = some u → h'.get? b = some u) (heo : ∃ u, h'.get? e = some u) : Un fs ex H (upd H x o) h h' := by
  have hx : ∀ b, H b = none → b ≠ x := fun b n z => by subst z; rw [n] at mu; exact mu
  have hb : ∀ b, H b = none → b ≠ e := fun b n z => by
    subst z
    rcases he with r | r
    · exact hx b n r
    · rw [n] at r; cases r
  have hm : ∀ b u, H b = some u → ¬ Mut (some u) → b ≠ x := fun b u q nm z => by subst z; rw [q] at mu; exact nm mu
  refine ⟨fun b u q n _ _ => k b u (hb b n) q, fun b u q n _ _ => ⟨u.slots, k b u (hb b n) q⟩, fun b u q n _ => by rw [upd_ne (hx b n)]; exact n, fun b u q _ => ?_,
    fun b xs q => by rw [upd_ne (hm b _ q fun z => z)]; exact q, fun b u xs q => by rw [upd_ne (hm b _ q fun z => z)]; exact q, fun b ps q => ⟨#[], by rw [upd_ne (hm b _ q fun z => z), q]; simp⟩⟩
  by_cases hbe : b = e
  · subst hbe; exact heo
  · exact ⟨u, k b u hbe q⟩
end
def trk (h : Heap) (H : Hp) : List Addr := (List.range h.objs.size).filter fun a => (H a).isSome
def hidT (h : Heap) (H : Hp) : Heap := PySem.W.hideAll h (trk h H)
theorem hidT_size (h : Heap) (H : Hp) : (hidT h H).objs.size = h.objs.size := PySem.W.hideAll_size _ _
theorem hidT_get {h : Heap} {H : Hp} {b : Addr} {o : Obj} (e : h.get? b = some o) (n : H b = none) : (hidT h H).get? b = some o :=
  PySem.W.hideAll_get _ e fun hm => by
    have q : (H b).isSome = true := (List.mem_filter.mp hm).2
    rw [n] at q; simp at q
theorem of_hidT {h : Heap} {H : Hp} {b : Addr} {o : Obj} (e : (hidT h H).get? b = some o) : h.get? b = some o ∧ H b = none := by
  have e' : h.get? b = some o := PySem.W.of_hideAll (trk h H) e
  refine ⟨e', ?_⟩
  cases q : H b with
  | none => rfl
  | some x =>
    have hm : b ∈ trk h H := List.mem_filter.mpr ⟨List.mem_range.mpr (Heap.lt_size e'), by simp [q]⟩
    have z : (hidT h H).get? b = none := PySem.W.hideAll_none (trk h H) hm
    rw [z] at e; cases e
def allNews (g h : Heap) (L : Addr) : List (Addr × Obj) := (List.range h.objs.size).filterMap fun a => if a = L ∨ (g.get? a).isSome = true then none else (h.get? a).map fun o => (a, o)
def rest (g h : Heap) (L d : Addr) : List (Addr × Obj) := (allNews g h L).filter fun p => decide (p.1 ≠ d)
end L2
namespace L2
open PySem PySem.Spec PyProof.Rows
structure Mod (K : PySem.W.Frag) (mg : Str → Option Value) (base : Heap) : Prop where
  kin : K.In base
  glob : base.Ns mainGlobals mg
  blt : ∃ mb, base.Ns builtinsNs mb ∧ ∀ x : Str, x ≠ "__name__" → mb x = bootBuiltins x
  nolimit : base.NoLimit
structure Cx where
  prog : Program
  w : World
  K : PySem.W.Frag
  mg : Str → Option Value
  base : Heap
  A : Around
  N : List Str
  s₀ : Shared
  H₀ : Hp
  env : Env
  outer : List Env
  stack : List Env
  ex : List Addr
  fn : Str → Bool
  calm : Bool
  pn : List (Addr × Obj)
  xe : Value → Shared → Prop
def frs (l : List Env) : List Addr := l.filterMap (·.frame)
abbrev Cx.fs (X : Cx) : List Addr := frs X.outer
def Vis (sc : Scope) (x : Str) : Prop := sc.names.lookup x = some .local ∨ sc.names.lookup x = some .cell ∨ sc.names.lookup x = some .free
def Loc (sc : Scope) (x : Str) : Prop := sc.names.lookup x = some .local ∨ sc.names.lookup x = some .cell
def Look (env : Env) (h : Heap) (m : Str → Option Value) (x : Str) (u : Value) : Prop :=
  (env.kindOf x = some .local ∧ m x = some u) ∨ ((env.kindOf x = some .cell ∨ env.kindOf x = some .free) ∧ ∃ c, env.cells.lookup x = some c ∧ h.IsCell c (some u))
structure Cx.Ok (X : Cx) : Prop where
  mod : Mod X.K X.mg X.base
  kind : X.env.scope.kind = .function
  glob : X.env.globals = mainGlobals
  blt : X.env.builtins = builtinsNs
  above : X.s₀.heap.objs.size ≤ X.env.locals
  inj : ∀ x y c, X.env.cells.lookup x = some c → X.env.cells.lookup y = some c → x = y
  has : ∀ x, (X.env.kindOf x = some .cell ∨ X.env.kindOf x = some .free) → ∃ c, X.env.cells.lookup x = some c
  cab : ∀ x c, X.fn x = true → X.env.cells.lookup x = some c → X.s₀.heap.objs.size ≤ c
  hd : X.calm = true → X.A.handled = none
  frames : X.A.frames = some X.stack
  stk : X.stack = X.outer ∨ (X.stack = X.env :: X.outer ∧ X.env.frame = some X.env.locals)
  exf : ∀ b ∈ X.ex, b ≠ X.env.locals ∧ ∀ x c, X.env.cells.lookup x = some c → c ≠ b
  bs : ∀ b o, X.base.get? b = some o → X.s₀.heap.get? b = some o ∧ X.H₀ b = none
  bsz : X.base.objs.size ≤ X.s₀.heap.objs.size
  noex : ∀ b o, X.base.get? b = some o → b ∉ X.ex
  exfs : ∀ b ∈ X.ex, b ∉ X.fs
  funs : X.s₀.heap.FunFrames X.base X.outer
  frf : ∀ b ∈ X.fs, X.H₀ b = none
structure Inv (X : Cx) (pins : List (Addr × Obj)) (σ : List (Option V)) (H : Hp) (s : Shared) : Prop where
  ok : X.Ok
  os : s.os = X.s₀.os
  bare : AllBare s.gens
  base : Un X.fs X.ex X.H₀ H X.s₀.heap s.heap
  loc : ∃ m, s.heap.Ns X.env.locals m ∧ ∀ (i : Nat) (x : Str) (v : V), X.N[i]? = some x → σ[i]? = some (some v) → Vis X.env.scope x → ∃ u, RelV v u ∧ Look X.env s.heap m x u
  cell : ∀ x c, X.env.cells.lookup x = some c → ∃ v, s.heap.IsCell c v
  free : H X.env.locals = none
  freeC : ∀ x c, X.env.cells.lookup x = some c → H c = none
  pin : ∀ p ∈ X.pn ++ pins, s.heap.get? p.1 = some p.2 ∧ H p.1 = none ∧ p.1 ≠ X.env.locals ∧ p.1 ∉ X.fs ∧ ∀ v, p.2.data ≠ .cell v
  hok : HOk X.prog X.w H s.heap
  len : σ.length = X.N.length
section
variable {X : Cx} {pins : List (Addr × Obj)} {σ : List (Option V)} {H H' : Hp} {s : Shared} {h' : Heap}
theorem Cx.Ok.nofr (ok : X.Ok) {b : Addr} {o : Obj} (e : X.base.get? b = some o) : b ∉ X.fs := fun hb => by
  have := (ok.funs.mem hb).1
  rw [e] at this; cases this
theorem Inv.bs (I : Inv X pins σ H s) : ∀ b o, X.base.get? b = some o → s.heap.get? b = some o ∧ H b = none := fun b o e =>
  ⟨I.base.keep b o (I.ok.bs b o e).1 (I.ok.bs b o e).2 (I.ok.nofr e) (I.ok.noex b o e), I.base.free b o (I.ok.bs b o e).1 (I.ok.bs b o e).2 (I.ok.noex b o e)⟩
theorem Inv.bk (I : Inv X pins σ H s) : ∀ b o, X.base.get? b = some o → s.heap.get? b = some o := fun b o e => (I.bs b o e).1
theorem Inv.mod (I : Inv X pins σ H s) : Mod X.K X.mg X.base := I.ok.mod
theorem Inv.kIn (I : Inv X pins σ H s) : X.K.In s.heap := I.ok.mod.kin.keeps I.bk
theorem Inv.lt (I : Inv X pins σ H s) : X.env.locals < s.heap.objs.size := let ⟨_, hn, _⟩ := I.loc; hn.lt
theorem Inv.sz (I : Inv X pins σ H s) : X.s₀.heap.objs.size ≤ s.heap.objs.size := Nat.le_trans I.ok.above (Nat.le_of_lt I.lt)
theorem Inv.nofs (I : Inv X pins σ H s) {a : Addr} (h : s.heap.objs.size ≤ a) : a ∉ X.fs := fun hb => by
  obtain ⟨_, o, ho, _⟩ := I.ok.funs.mem hb
  exact absurd (Nat.lt_of_lt_of_le (Heap.lt_size ho) (Nat.le_trans I.sz h)) (Nat.lt_irrefl _)
theorem Inv.cne (I : Inv X pins σ H s) : ∀ x c, X.env.cells.lookup x = some c → c ≠ X.env.locals := fun x c e z => by
  obtain ⟨v, o, ho, hd⟩ := I.cell x c e
  obtain ⟨m, ⟨o', es, ep, ho', hd', _⟩, _⟩ := I.loc
  rw [z, ho'] at ho; cases ho; rw [hd'] at hd; cases hd
theorem Inv.funs (I : Inv X pins σ H s) : s.heap.FunFrames X.base X.outer := by
  have all : ∀ (l : List Env), (∀ b ∈ frs l, b ∈ X.fs) → X.s₀.heap.FunFrames X.base l → s.heap.FunFrames X.base l := by
    intro l
    induction l with
    | nil => intro _ _; trivial
    | cons env r ih =>
      intro hs hl
      obtain ⟨hk, ⟨L, o, hf, hn, ho, hd⟩, hr⟩ := hl
      have hL : L ∈ X.fs := hs L (by unfold frs; rw [List.filterMap_cons, hf]; exact List.mem_cons_self)
      obtain ⟨sl, e⟩ := I.base.slot L o ho (I.ok.frf L hL) hL fun z => I.ok.exfs L z hL
      exact ⟨hk, ⟨L, _, hf, hn, e, hd⟩, ih (fun b hb => hs b (by unfold frs; rw [List.filterMap_cons, hf]; exact List.mem_cons_of_mem _ hb)) hr⟩
  exact all X.outer (fun _ hb => hb) I.ok.funs
theorem Inv.stack (I : Inv X pins σ H s) : s.heap.FunFrames X.base X.stack := by
  rcases I.ok.stk with e | ⟨e, hf⟩
  · rw [e]; exact I.funs
  · rw [e]
    obtain ⟨m, hn, _⟩ := I.loc
    refine .cons (by rw [I.ok.kind]; decide) hf hn ?_ I.funs
    exact Heap.get?_none_of_le (Nat.le_trans I.ok.bsz I.ok.above)
theorem Inv.stkSub (I : Inv X pins σ H s) : ∀ b ∈ frs X.stack, b ∈ X.env.locals :: X.fs := fun b hb => by
  rcases I.ok.stk with e | ⟨e, hf⟩
  · rw [e] at hb; exact List.mem_cons_of_mem _ hb
  · rw [e] at hb
    unfold frs at hb
    rw [List.filterMap_cons, hf] at hb
    exact hb
theorem Inv.stkFree (I : Inv X pins σ H s) : ∀ b ∈ frs X.stack, H b = none := fun b hb => by
  rcases List.mem_cons.mp (I.stkSub b hb) with e | hb
  · rw [e]; exact I.free
  · obtain ⟨_, o, ho, _⟩ := I.ok.funs.mem hb
    exact I.base.free b o ho (I.ok.frf b hb) fun z => I.ok.exfs b z hb
theorem Inv.step {g' : Array GenState} {t' : Nat} {d' : Drawn} {ch : List Addr} (I : Inv X pins σ H s)
    (hch : ∀ b ∈ ch, (b ∈ X.ex ∨ X.s₀.heap.objs.size ≤ b) ∧ b ≠ X.env.locals ∧ (∀ x c, X.env.cells.lookup x = some c → c ≠ b) ∧ ∀ p ∈ X.pn ++ pins, p.1 ≠ b)
    (keep : ∀ b o, b ≠ X.env.locals → b ∉ X.fs → b ∉ ch → s.heap.get? b = some o → H b = none → h'.get? b = some o)
    (slot : ∀ b o, b ≠ X.env.locals → b ∈ X.fs → b ∉ ch → s.heap.get? b = some o → H b = none → ∃ sl, h'.get? b = some { o with slots := sl }) (free : ∀ b o, b ∉ ch → s.heap.get? b = some o → H b = none → H' b = none)
    (there : ∀ b o, b ∉ ch → s.heap.get? b = some o → ∃ o', h'.get? b = some o')
    (tups : ∀ b xs, H b = some (.tup xs) → H' b = some (.tup xs)) (frzs : ∀ b o u, H b = some (.frz o u) → H' b = some (.frz o u)) (tbls : ∀ b ps, H b = some (.tbl ps) → ∃ more, H' b = some (.tbl (ps ++ more)))
    (ns : ∀ m, s.heap.Ns X.env.locals m → h'.Ns X.env.locals m) (hok : HOk X.prog X.w H' h') (hg : AllBare g') :
    Inv X pins σ H' { s with heap := h', gens := g', drawn := d', toks := t' } := by
  have neL : ∀ b o, X.s₀.heap.get? b = some o → b ≠ X.env.locals := fun b o e => Nat.ne_of_lt (Nat.lt_of_lt_of_le (Heap.lt_size e) I.ok.above)
  have neC : ∀ b o, X.s₀.heap.get? b = some o → b ∉ X.ex → b ∉ ch := fun b o e hx hb => by
    rcases (hch b hb).1 with z | z
    · exact hx z
    · exact absurd (Nat.lt_of_lt_of_le (Heap.lt_size e) z) (Nat.lt_irrefl _)
  have cellK : ∀ x c, X.env.cells.lookup x = some c → ∀ v, s.heap.IsCell c v → h'.IsCell c v := fun x c e v ⟨o, ho, hd⟩ => by
    have nch : c ∉ ch := fun z => (hch c z).2.2.1 x c e rfl
    by_cases hc : c ∈ X.fs
    · obtain ⟨sl, q⟩ := slot c o (I.cne x c e) hc nch ho (I.freeC x c e)
      exact ⟨_, q, hd⟩
    · exact ⟨o, keep c o (I.cne x c e) hc nch ho (I.freeC x c e), hd⟩
  refine ⟨I.ok, I.os, hg, ⟨fun b o e n hb hx => ?_, fun b o e n hb hx => ?_, fun b o e n hx => ?_, fun b o e hx => ?_, fun b xs e => tups b xs (I.base.tups b xs e), fun b o xs e => frzs b o xs (I.base.frzs b o xs e), fun b ps e => ?_⟩, ?_, fun x c e => ?_, ?_, fun x c e => ?_, fun p hp => ?_, hok, I.len⟩
  · exact keep b o (neL b o e) hb (neC b o e hx) (I.base.keep b o e n hb hx) (I.base.free b o e n hx)
  · obtain ⟨sl, e1⟩ := I.base.slot b o e n hb hx
    obtain ⟨sl', e2⟩ := slot b _ (neL b o e) hb (neC b o e hx) e1 (I.base.free b o e n hx)
    exact ⟨sl', e2⟩
  · obtain ⟨o', e1⟩ := I.base.there b o e hx
    exact free b o' (neC b o e hx) e1 (I.base.free b o e n hx)
  · obtain ⟨o', e1⟩ := I.base.there b o e hx
    exact there b o' (neC b o e hx) e1
  · obtain ⟨m1, e1⟩ := I.base.tbls b ps e
    obtain ⟨m2, e2⟩ := tbls b _ e1
    exact ⟨m1 ++ m2, by rw [e2, Array.append_assoc]⟩
  · obtain ⟨m, hn, hl⟩ := I.loc
    refine ⟨m, ns m hn, fun i x v e1 e2 e3 => ?_⟩
    obtain ⟨u, r, l⟩ := hl i x v e1 e2 e3
    refine ⟨u, r, ?_⟩
    rcases l with l | ⟨k, c, e, z⟩
    · exact .inl l
    · exact .inr ⟨k, c, e, cellK x c e _ z⟩
  · obtain ⟨v, z⟩ := I.cell x c e
    exact ⟨v, cellK x c e v z⟩
  · obtain ⟨m, ⟨o, _, _, ho, _⟩, _⟩ := I.loc
    exact free _ o (fun z => (hch _ z).2.1 rfl) ho I.free
  · obtain ⟨v, o, ho, hd⟩ := I.cell x c e
    exact free c o (fun z => (hch c z).2.2.1 x c e rfl) ho (I.freeC x c e)
  · obtain ⟨e, n, ne, nf, d⟩ := I.pin p hp
    have nch : p.1 ∉ ch := fun z => (hch p.1 z).2.2.2 p hp rfl
    exact ⟨keep p.1 p.2 ne nf nch e n, free p.1 p.2 nch e n, ne, nf, d⟩
theorem Inv.un {t' : Nat} (I : Inv X pins σ H s) (u : Un X.fs [] H H' s.heap h') (hok : HOk X.prog X.w H' h') : Inv X pins σ H' { s with heap := h', toks := t' } := by
  obtain ⟨m, ⟨o, es, ep, ho, r⟩, _⟩ := id I.loc
  obtain ⟨sl, hL⟩ := u.any ho I.free (by simp)
  exact I.step (g' := s.gens) (d' := s.drawn) (ch := []) (fun _ z => nomatch z) (fun b o _ hb _ e n => u.keep b o e n hb (by simp)) (fun b o _ hb _ e n => u.slot b o e n hb (by simp)) (fun b o _ e n => u.free b o e n (by simp)) (fun b o _ e => u.there b o e (by simp)) u.tups u.frzs u.tbls (fun m' hm => by
    obtain ⟨o', es', ep', ho', r'⟩ := hm
    rw [ho] at ho'; cases ho'
    exact ⟨_, es', ep', hL, r'⟩) hok I.bare
theorem Inv.call {g' : Array GenState} {t' : Nat} {d' : Drawn} {ch : List Addr} (I : Inv X pins σ H s) (u : Un (frs X.stack) ch H H' s.heap h') (hok : HOk X.prog X.w H' h') (hg : AllBare g')
    (hch : ∀ b ∈ ch, (b ∈ X.ex ∨ X.s₀.heap.objs.size ≤ b) ∧ b ≠ X.env.locals ∧ (∀ x c, X.env.cells.lookup x = some c → c ≠ b) ∧ ∀ p ∈ X.pn ++ pins, p.1 ≠ b) :
    Inv X pins σ H' { s with heap := h', gens := g', drawn := d', toks := t' } := by
  obtain ⟨m, ⟨o, es, ep, ho, r⟩, _⟩ := id I.loc
  obtain ⟨sl, hL⟩ := u.any ho I.free fun z => (hch _ z).2.1 rfl
  exact I.step (ch := ch) hch (fun b o hL hb hc e n => u.keep b o e n (fun z => (List.mem_cons.mp (I.stkSub b z)).elim hL hb) hc) (fun b o _ _ hc e n => u.any e n hc) (fun b o hc e n => u.free b o e n hc) (fun b o hc e => u.there b o e hc) u.tups u.frzs u.tbls (fun m' hm => by
    obtain ⟨o', es', ep', ho', r'⟩ := hm
    rw [ho] at ho'; cases ho'
    exact ⟨_, es', ep', hL, r'⟩) hok hg
theorem Inv.turned {t' : Nat} {it : Addr} (I : Inv X pins σ H s) (k : ∀ b o, b ≠ it → s.heap.get? b = some o → h'.get? b = some o) (hn : H it = none) (hL : it ≠ X.env.locals)
    (h1 : it ∈ X.ex ∨ X.s₀.heap.objs.size ≤ it) (h2 : ∀ x c, X.env.cells.lookup x = some c → c ≠ it) (h3 : ∀ p ∈ X.pn ++ pins, p.1 ≠ it) : Inv X pins σ H { s with heap := h', toks := t' } := by
  have nit : ∀ b u, H b = some u → b ≠ it := fun b u e z => by rw [z, hn] at e; cases e
  refine I.step (g' := s.gens) (d' := s.drawn) (ch := [it]) (fun b hb => ?_) (fun b o _ _ hc e _ => k b o (fun z => hc (by simp [z])) e) (fun b o _ _ hc e _ => ⟨o.slots, k b o (fun z => hc (by simp [z])) e⟩) (fun _ _ _ _ n => n)
    (fun b o hc e => ⟨o, k b o (fun z => hc (by simp [z])) e⟩) (fun _ _ e => e) (fun _ _ _ e => e) (fun b ps e => ⟨#[], by rw [e]; simp⟩) (fun m hm => ?_) (fun b u e => ?_) I.bare
  · have e : b = it := by simpa using hb
    subst e
    exact ⟨h1, hL, h2, h3⟩
  · obtain ⟨o, es, ep, ho, r⟩ := hm
    exact ⟨o, es, ep, k _ o (Ne.symm hL) ho, r⟩
  · refine (I.hok b u e).stay (fun c v hc q => k c v ?_ q) (fun _ q => q) fun _ _ q => q
    rcases hc with z | z
    · rw [z]; exact nit b u e
    · exact nit c _ z
theorem Inv.tok (I : Inv X pins σ H s) (t : Nat) : Inv X pins σ H { s with toks := t } := I.un (h' := s.heap) (t' := t) Un.refl I.hok
theorem Inv.kept {t' : Nat} (I : Inv X pins σ H s) (k : ∀ b u, s.heap.get? b = some u → h'.get? b = some u) : Inv X pins σ H { s with heap := h', toks := t' } := I.un (Un.kept k) (I.hok.kept k)
theorem Inv.laid {a : Addr} {o : HO} {t' : Nat} (I : Inv X pins σ H s) (k : ∀ b u, s.heap.get? b = some u → h'.get? b = some u) (hp : s.heap.objs.size ≤ a) (new : ObjOk X.prog X.w (upd H a o) h' a o) :
    Inv X pins σ (upd H a o) { s with heap := h', toks := t' } := I.un (Un.laid k hp (I.hok.fresh hp)) (I.hok.laid k hp new)
theorem Inv.write {x e : Addr} {o : HO} {t' : Nat} (I : Inv X pins σ H s) (mu : Mut (H x)) (he : e = x ∨ H e = some (.own x)) (k : ∀ b u, b ≠ e → s.heap.get? b = some u → h'.get? b = some u) (heo : ∃ u, h'.get? e = some u)
    (new : ObjOk X.prog X.w (upd H x o) h' x o) : Inv X pins σ (upd H x o) { s with heap := h', toks := t' } := I.un (Un.write mu he k heo) (I.hok.write mu he k heo new)
theorem Inv.pins_of {pins' : List (Addr × Obj)} (I : Inv X pins σ H s) (h : ∀ p ∈ pins', s.heap.get? p.1 = some p.2 ∧ H p.1 = none ∧ p.1 ≠ X.env.locals ∧ p.1 ∉ X.fs ∧ ∀ v, p.2.data ≠ .cell v) : Inv X pins' σ H s :=
  ⟨I.ok, I.os, I.bare, I.base, I.loc, I.cell, I.free, I.freeC, fun p hp => (List.mem_append.mp hp).elim (fun z => I.pin p (List.mem_append_left _ z)) (h p), I.hok, I.len⟩
theorem nodup_ix {N : List Str} (hN : N.Nodup) {i j : Nat} {x : Str} (a : N[i]? = some x) (b : N[j]? = some x) : i = j := by
  obtain ⟨h1, e1⟩ := List.getElem?_eq_some_iff.mp a
  obtain ⟨h2, e2⟩ := List.getElem?_eq_some_iff.mp b
  exact (List.getElem_inj hN).mp (e1.trans e2.symm)
theorem store_ok2 {M : Model} {A : Around} {E : Value → Shared → Prop} {i : Nat} {x : Str} {v : V} {u : Value} {Q : Unit → Shared → Prop} (I : Inv X pins σ H s) (hN : X.N.Nodup) (hi : X.N[i]? = some x) (hx : Loc X.env.scope x) (r : RelV v u)
    (h : ∀ s', Inv X pins (σ.set i (some v)) H s' → (∃ a, Heap.SameBut a s.heap s'.heap ∧ (a = X.env.locals ∨ X.env.cells.lookup x = some a)) → Q () s') (hf : X.fn x = true ∨ X.env.scope.names.lookup x = some .local := by first | exact .inl rfl | exact .inr rfl | assumption) : wpAny M A (storeName X.env x u) Q E s := by
  obtain ⟨m, hn, hl⟩ := id I.loc
  have hcls : (X.env.scope.kind == .class || (X.env.scope.kind == .module && X.env.locals != X.env.globals)) = false := by rw [I.ok.kind]; rfl
  have hiσ : i < σ.length := by rw [I.len]; exact (List.getElem?_eq_some_iff.mp hi).1
  have cne := I.cne
  have tracked : ∀ {a : Addr} {h' : Heap}, (∃ o, s.heap.get? a = some o ∧ H a = none) → Heap.SameBut a s.heap h' → HOk X.prog X.w H h' := fun {a h'} ha hs b ob e => by
    obtain ⟨_, _, hfree⟩ := ha
    refine (I.hok b ob e).stay (fun c w' hc q => (hs.2 c ?_).trans q) (fun _ q => q) fun _ _ q => q
    rintro rfl
    rcases hc with rfl | hc
    · rw [hfree] at e; cases e
    · rw [hfree] at hc; cases hc
  rcases hx with hk | hk
  · refine wpAny_storeName_local hk hn (fun h' hn' hs => ?_) hcls
    obtain ⟨oL, _, _, hoL, _⟩ := id hn
    refine h _ ⟨I.ok, I.os, I.bare, ⟨fun b o e n hb hx => ?_, fun b o e n hb hx => ?_, I.base.free, fun b o e hx => ?_, I.base.tups, I.base.frzs, I.base.tbls⟩, ⟨_, hn', fun j y v' e1 e2 e3 => ?_⟩, fun y c e => ?_, I.free, I.freeC, fun p hp => ?_, tracked ⟨oL, hoL, I.free⟩ hs, by simpa using I.len⟩ ⟨_, hs, .inl rfl⟩
    · exact (hs.2 b (Nat.ne_of_lt (Nat.lt_of_lt_of_le (Heap.lt_size e) I.ok.above))).trans (I.base.keep b o e n hb hx)
    · obtain ⟨sl, e1⟩ := I.base.slot b o e n hb hx
      exact ⟨sl, (hs.2 b (Nat.ne_of_lt (Nat.lt_of_lt_of_le (Heap.lt_size e) I.ok.above))).trans e1⟩
    · obtain ⟨o', e1⟩ := I.base.there b o e hx
      exact ⟨o', (hs.2 b (Nat.ne_of_lt (Nat.lt_of_lt_of_le (Heap.lt_size e) I.ok.above))).trans e1⟩
    · by_cases hj : j = i
      · subst hj
        rw [hi] at e1; cases e1
        rw [List.getElem?_set_self hiσ] at e2
        cases e2
        exact ⟨u, r, .inl ⟨hk, by simp⟩⟩
      · rw [List.getElem?_set_ne (Ne.symm hj)] at e2
        obtain ⟨u', r', q⟩ := hl j y v' e1 e2 e3
        refine ⟨u', r', ?_⟩
        rcases q with ⟨k, e⟩ | ⟨k, c, e, z⟩
        · refine .inl ⟨k, ?_⟩
          have : y ≠ x := fun e => hj (nodup_ix hN e1 (e ▸ hi))
          simp [this, e]
        · exact .inr ⟨k, c, e, z.sameBut hs (cne y c e)⟩
    · obtain ⟨w', z⟩ := I.cell y c e
      exact ⟨w', z.sameBut hs (cne y c e)⟩
    · obtain ⟨e, n, ne, nf, d⟩ := I.pin p hp
      exact ⟨(hs.2 p.1 ne).trans e, n, ne, nf, d⟩
  · have hfn : X.fn x = true := by
      rcases hf with z | z
      · exact z
      · rw [z] at hk; cases hk
    obtain ⟨c, hc⟩ := I.ok.has x (.inl hk)
    obtain ⟨w', z⟩ := I.cell x c hc
    refine wpAny_storeName_cell I.ok.kind hk hc z (fun h' hc' hs => ?_)
    obtain ⟨oc, hoc, hocd⟩ := id z
    refine h { s with heap := h' } ⟨I.ok, I.os, I.bare, ⟨fun b o e n hb hx => ?_, fun b o e n hb hx => ?_, I.base.free, fun b o e hx => ?_, I.base.tups, I.base.frzs, I.base.tbls⟩, ⟨m, hn.sameBut hs (Ne.symm (cne x c hc)), fun j y v' e1 e2 e3 => ?_⟩, fun y c' e => ?_, I.free, I.freeC, fun p hp => ?_, tracked ⟨oc, hoc, I.freeC x c hc⟩ hs, by simpa using I.len⟩ ⟨c, hs, .inr hc⟩
    · exact (hs.2 b (Nat.ne_of_lt (Nat.lt_of_lt_of_le (Heap.lt_size e) (I.ok.cab x c hfn hc)))).trans (I.base.keep b o e n hb hx)
    · obtain ⟨sl, e1⟩ := I.base.slot b o e n hb hx
      exact ⟨sl, (hs.2 b (Nat.ne_of_lt (Nat.lt_of_lt_of_le (Heap.lt_size e) (I.ok.cab x c hfn hc)))).trans e1⟩
    · obtain ⟨o', e1⟩ := I.base.there b o e hx
      exact ⟨o', (hs.2 b (Nat.ne_of_lt (Nat.lt_of_lt_of_le (Heap.lt_size e) (I.ok.cab x c hfn hc)))).trans e1⟩
    · by_cases hj : j = i
      · subst hj
        rw [hi] at e1; cases e1
        rw [List.getElem?_set_self hiσ] at e2
        cases e2
        exact ⟨u, r, .inr ⟨.inl hk, c, hc, hc'⟩⟩
      · rw [List.getElem?_set_ne (Ne.symm hj)] at e2
        obtain ⟨u', r', q⟩ := hl j y v' e1 e2 e3
        refine ⟨u', r', ?_⟩
        rcases q with q | ⟨k, c', e, z'⟩
        · exact .inl q
        · refine .inr ⟨k, c', e, z'.sameBut hs ?_⟩
          rintro rfl
          exact hj (nodup_ix hN e1 (I.ok.inj _ _ _ e hc ▸ hi))
    · by_cases hcc : c' = c
      · subst hcc; exact ⟨_, hc'⟩
      · obtain ⟨w2, z2⟩ := I.cell y c' e
        exact ⟨w2, z2.sameBut hs hcc⟩
    · obtain ⟨e, n, ne, nf, d⟩ := I.pin p hp
      refine ⟨(hs.2 p.1 ?_).trans e, n, ne, nf, d⟩
      intro q
      rw [q, hoc] at e
      have q' : oc = p.2 := Option.some.inj e
      exact d w' (by rw [← q']; exact hocd)
theorem store_ok {M : Model} {A : Around} {E : Value → Shared → Prop} {i : Nat} {x : Str} {v : V} {u : Value} {Q : Unit → Shared → Prop} (I : Inv X pins σ H s) (hN : X.N.Nodup) (hi : X.N[i]? = some x) (hx : Loc X.env.scope x) (r : RelV v u)
    (h : ∀ s', Inv X pins (σ.set i (some v)) H s' → Q () s') (hf : X.fn x = true ∨ X.env.scope.names.lookup x = some .local := by first | exact .inl rfl | exact .inr rfl | assumption) : wpAny M A (storeName X.env x u) Q E s :=
  store_ok2 I hN hi hx r (fun s' I' _ => h s' I') hf
theorem Inv.call' {s' : Shared} {ch : List Addr} (I : Inv X pins σ H s) (ho : s'.os = s.os) (u : Un (frs X.stack) ch H H' s.heap s'.heap) (hok : HOk X.prog X.w H' s'.heap) (hg : AllBare s'.gens)
    (hch : ∀ b ∈ ch, (b ∈ X.ex ∨ X.s₀.heap.objs.size ≤ b) ∧ b ≠ X.env.locals ∧ (∀ x c, X.env.cells.lookup x = some c → c ≠ b) ∧ ∀ p ∈ X.pn ++ pins, p.1 ≠ b) : Inv X pins σ H' s' := by
  obtain ⟨h', g', d', t', o'⟩ := s'
  have e : o' = s.os := ho
  subst e
  exact I.call (g' := g') (t' := t') (d' := d') u hok hg hch
end
abbrev XK := Value → Option Addr → Hp → Prop
abbrev St := List (Option V)
abbrev VK := V → Hp → Prop
abbrev TE := St → Hp → VK → Prop
abbrev TT := St → Hp → (Bool → Hp → Prop) → Prop
abbrev TA := St → Hp → (List V → Hp → Prop) → Prop
structure Ends where
  nx : St → Hp → Prop
  rt : VK
  bk : St → Hp → Prop := fun _ _ => False
  ct : St → Hp → Prop := fun _ _ => False
abbrev TS := Ends → St → Hp → Prop
def EP (X : Cx) (pins : List (Addr × Obj)) (σ : St) (Q : VK) (u : Value) (s' : Shared) : Prop := ∃ v H', Inv X pins σ H' s' ∧ RelV v u ∧ Q v H'
def TP (X : Cx) (pins : List (Addr × Obj)) (σ : St) (Q : Bool → Hp → Prop) (b : Bool) (s' : Shared) : Prop := ∃ H', Inv X pins σ H' s' ∧ Q b H'
def AP (X : Cx) (pins : List (Addr × Obj)) (σ : St) (Q : List V → Hp → Prop) (us : List Value) (s' : Shared) : Prop := ∃ vs H', Inv X pins σ H' s' ∧ Vals vs us ∧ Q vs H'
def SP (X : Cx) (pins : List (Addr × Obj)) (D : Ends) (f : Flow) (s' : Shared) : Prop :=
  match f with
  | .next => ∃ σ' H', Inv X pins σ' H' s' ∧ D.nx σ' H'
  | .brk => ∃ σ' H', Inv X pins σ' H' s' ∧ D.bk σ' H'
  | .cont => ∃ σ' H', Inv X pins σ' H' s' ∧ D.ct σ' H'
  | .ret u => ∃ v σ' H', Inv X pins σ' H' s' ∧ RelV v u ∧ D.rt v H'
def PE (X : Cx) (e : Expr) (t : TE) : Prop :=
  ∀ (pins : List (Addr × Obj)) (s : Shared) (σ : St) (H : Hp) (Q : VK), Inv X pins σ H s → t σ H Q → wpAny (model X.prog X.w) X.A (eval e X.env) (EP X pins σ Q) X.xe s
def PT (X : Cx) (e : Expr) (t : TT) : Prop :=
  ∀ (pins : List (Addr × Obj)) (s : Shared) (σ : St) (H : Hp) (Q : Bool → Hp → Prop), Inv X pins σ H s → t σ H Q → wpAny (model X.prog X.w) X.A (isTrue e X.env (eval e X.env)) (TP X pins σ Q) X.xe s
def PW (X : Cx) (e : Expr) (t : TT) : Prop :=
  ∀ (whole : Sem Value) (pins : List (Addr × Obj)) (s : Shared) (σ : St) (H : Hp) (Q : Bool → Hp → Prop), Inv X pins σ H s → t σ H Q → wpAny (model X.prog X.w) X.A (isTrue e X.env whole) (TP X pins σ Q) X.xe s
theorem PW.pt {X : Cx} {e : Expr} {t : TT} (h : PW X e t) : PT X e t := h _
def PA (X : Cx) (es : List Expr) (t : TA) : Prop :=
  ∀ (pos : Pos) (pins : List (Addr × Obj)) (s : Shared) (σ : St) (H : Hp) (Q : List V → Hp → Prop), Inv X pins σ H s → t σ H Q → wpAny (model X.prog X.w) X.A (spliced (backTo pos (starEach es X.env))) (AP X pins σ Q) X.xe s
def PS (X : Cx) (st : Stmt) (t : TS) : Prop :=
  ∀ (pins : List (Addr × Obj)) (s : Shared) (σ : St) (H : Hp) (D : Ends), Inv X pins σ H s → t D σ H → wpAny (model X.prog X.w) X.A (exec st X.env) (SP X pins D) X.xe s
def PSs (X : Cx) (st : List Stmt) (t : TS) : Prop :=
  ∀ (pins : List (Addr × Obj)) (s : Shared) (σ : St) (H : Hp) (D : Ends), Inv X pins σ H s → t D σ H → wpAny (model X.prog X.w) X.A (execs st X.env) (SP X pins D) X.xe s
theorem thn {α : Type} {t : Sem α} {Q Q' : α → Shared → Prop} {M : Model} {A : Around} {E : Value → Shared → Prop} {s : Shared} (h : wpAny M A t Q E s) (hQ : ∀ a s, Q a s → Q' a s) : wpAny M A t Q' E s := wpAny_mono h hQ fun _ _ x => x
end L2
namespace L2
open PySem PySem.Spec PyProof.Rows
section
variable {X : Cx}
def tVar (i : Nat) : TE := fun σ H Q => ∃ v, σ[i]? = some (some v) ∧ Q v H
def tC (v : V) : TE := fun _ H Q => Q v H
theorem pe_var {i : Nat} {x : Str} {pos : Pos} (hN : X.N[i]? = some x) (hv : Vis X.env.scope x) (hd : (x == ("__debug__" : Str)) = false := by decide) (hcd : (x == ("__classdict__" : Str)) = false := by decide) : PE X (.Name x pos) (tVar i) := by
  intro pins s σ H Q I h
  obtain ⟨v, e, h⟩ := h
  obtain ⟨m, hn, hl⟩ := I.loc
  obtain ⟨u, r, l⟩ := hl i x v hN e hv
  have fin : EP X pins σ Q u s := ⟨v, H, I, r, h⟩
  rcases l with ⟨hk, hm⟩ | ⟨hk, c, hc, hcell⟩
  · exact wpAny_Name (wpAny_loadName_local I.ok.kind hk hn hm fin) hd
  · rcases hk with hk | hk
    · exact wpAny_Name (wpAny_loadName_cell I.ok.kind hk hc hcell fin) hd
    · exact wpAny_Name (wpAny_loadName_free I.ok.kind hk hc hcell fin hcd) hd
theorem pe_int {i j pos} : PE X (.Constant (.int i) j pos) (tC (.int i)) := fun _ _ _ H _ I h => wpAny_Constant_int ⟨.int i, H, I.tok _, ⟨_, rfl⟩, h⟩
theorem pe_bl {b j pos} : PE X (.Constant (.bool b) j pos) (tC (.bl b)) := fun _ _ _ H _ I h => Constant_bool ⟨.bl b, H, I, rfl, h⟩
theorem pe_str {x j pos} : PE X (.Constant (.str x) j pos) (tC (.str x)) := fun _ _ _ H _ I h => Calls.Constant_str ⟨.str x, H, I.tok _, ⟨_, rfl⟩, h⟩
def Gl (X : Cx) (x : Str) : Prop := X.env.kindOf x = some .globalImplicit
theorem ld_glob {E : Value → Shared → Prop} {pins : List (Addr × Obj)} {s : Shared} {σ : St} {H : Hp} {x : Str} {u : Value} {pos : Pos} {Q : Value → Shared → Prop} (I : Inv X pins σ H s) (hg : Gl X x) (hm : X.mg x = some u) (h : Q u s)
    (hd : (x == ("__debug__" : Str)) = false := by decide) : wpAny (model X.prog X.w) X.A (eval (.Name x pos) X.env) Q E s :=
  Calls.Name_function_global I.ok.kind hg (Calls.loadGlobal_global (by rw [I.ok.glob]; exact I.mod.glob.keeps I.bk) hm h) hd
theorem ld_blt {E : Value → Shared → Prop} {pins : List (Addr × Obj)} {s : Shared} {σ : St} {H : Hp} {x : Str} {u : Value} {pos : Pos} {Q : Value → Shared → Prop} (I : Inv X pins σ H s) (hg : Gl X x) (hm : X.mg x = none) (hv : bootBuiltins x = some u) (h : Q u s)
    (hn : x ≠ "__name__" := by decide) (hd : (x == ("__debug__" : Str)) = false := by decide) : wpAny (model X.prog X.w) X.A (eval (.Name x pos) X.env) Q E s := by
  obtain ⟨mb, h1, h2⟩ := I.mod.blt
  exact Calls.Name_function_global I.ok.kind hg (Calls.loadGlobal_builtin (by rw [I.ok.glob]; exact I.mod.glob.keeps I.bk) hm (by rw [I.ok.blt]; exact h1.keeps I.bk) ((h2 x hn).trans hv) h) hd
theorem pe_glob {x : Str} {v : V} {u : Value} {pos : Pos} (hg : Gl X x) (hm : X.mg x = some u) (r : RelV v u) (hd : (x == ("__debug__" : Str)) = false := by decide) : PE X (.Name x pos) (tC v) :=
  fun _ _ _ H _ I h => ld_glob I hg hm ⟨v, H, I, r, h⟩ hd
theorem pe_bltn {x : Str} {v : V} {u : Value} {pos : Pos} (hg : Gl X x) (hm : X.mg x = none) (hv : bootBuiltins x = some u) (r : RelV v u) (hn : x ≠ "__name__" := by decide) (hd : (x == ("__debug__" : Str)) = false := by decide) : PE X (.Name x pos) (tC v) :=
  fun _ _ _ H _ I h => ld_blt I hg hm hv ⟨v, H, I, r, h⟩ hn hd
variable {a b : Expr} {ta tb : TE} {pos : Pos}
def tB (t : TE) : TT := fun σ H Q => t σ H fun x H1 => ∃ c, x = .bl c ∧ Q c H1
theorem pt_val {e : Expr} {t : TE} (h : PE X e t) (he : ∀ whole, isTrue e X.env whole = (do let v ← whole; standAt e.pos; holding [v] (truthy v)) := by intro _; rfl) : PT X e (tB t) := by
  intro pins s σ H Q I hw
  refine isTrue_plain (thn (h pins s σ H _ I hw) fun v s1 ⟨x, H1, I1, r1, q1⟩ => ?_) (he _)
  obtain ⟨d, rfl, q⟩ := q1
  cases r1
  exact wpAny_truthy_bool ⟨H1, I1, q⟩
variable {tA tB' : TT} {rest : List Expr}
def tAnd (t u : TT) : TT := fun σ H Q => t σ H fun c H1 => if c = true then u σ H1 Q else Q false H1
def tOr (t u : TT) : TT := fun σ H Q => t σ H fun c H1 => if c = true then Q true H1 else u σ H1 Q
def tNot (t : TT) : TT := fun σ H Q => t σ H fun c H1 => Q (!c) H1
theorem pw_and1 (ha : PT X a tA) : PW X (.BoolOp .And [a] pos) tA := by
  intro wh pins s σ H Q I h
  refine isTrue_and (thn (ha pins s σ H Q I h) fun c s1 e => ?_)
  cases c with
  | true => exact isTrue_and_nil e
  | false => exact e
theorem pw_or1 (ha : PT X a tA) : PW X (.BoolOp .Or [a] pos) tA := by
  intro wh pins s σ H Q I h
  refine isTrue_or (thn (ha pins s σ H Q I h) fun c s1 e => ?_)
  cases c with
  | false => exact isTrue_or_nil e
  | true => exact e
theorem pw_and (ha : PT X a tA) (hb : PW X (.BoolOp .And (b :: rest) pos) tB') : PW X (.BoolOp .And (a :: b :: rest) pos) (tAnd tA tB') := by
  intro wh pins s σ H Q I h
  refine isTrue_and (thn (ha pins s σ H _ I h) fun c s1 ⟨H1, I1, q1⟩ => ?_)
  cases c with
  | true => exact hb wh pins s1 σ H1 Q I1 q1
  | false => exact ⟨H1, I1, q1⟩
theorem pw_or (ha : PT X a tA) (hb : PW X (.BoolOp .Or (b :: rest) pos) tB') : PW X (.BoolOp .Or (a :: b :: rest) pos) (tOr tA tB') := by
  intro wh pins s σ H Q I h
  refine isTrue_or (thn (ha pins s σ H _ I h) fun c s1 ⟨H1, I1, q1⟩ => ?_)
  cases c with
  | true => exact ⟨H1, I1, q1⟩
  | false => exact hb wh pins s1 σ H1 Q I1 q1
theorem pt_not (ha : PT X a tA) : PT X (.UnaryOp .Not a pos) (tNot tA) := by
  intro pins s σ H Q I h
  exact isTrue_not (ha pins s σ H (fun c H1 => Q (!c) H1) I h)
def tAndV (ta tb : TE) : TE := fun σ H Q => ta σ H fun x H1 => ∃ c, x = .bl c ∧ if c = true then tb σ H1 Q else Q (.bl false) H1
def tNotV (ta : TE) : TE := fun σ H Q => ta σ H fun x H1 => ∃ c, x = .bl c ∧ Q (.bl (!c)) H1
theorem pe_one {op} {t : TE} (h : PE X a t) : PE X (.BoolOp op [a] pos) t := fun pins s σ H Q I hw => BoolOp_one (h pins s σ H Q I hw)
theorem pe_and (ha : PE X a ta) (hb : PE X (.BoolOp .And (b :: rest) pos) tb) : PE X (.BoolOp .And (a :: b :: rest) pos) (tAndV ta tb) := by
  intro pins s σ H Q I h
  refine BoolOp_and (thn (ha pins s σ H _ I h) fun v s1 ⟨x, H1, I1, r1, q1⟩ => ?_)
  obtain ⟨c, rfl, q1⟩ := q1
  cases r1
  refine wpAny_truthy_bool ?_
  cases c with
  | true => exact hb pins s1 σ H1 Q I1 q1
  | false => exact ⟨.bl false, H1, I1, rfl, q1⟩
theorem pe_not (ha : PE X a ta) : PE X (.UnaryOp .Not a pos) (tNotV ta) := by
  intro pins s σ H Q I h
  refine UnaryOp_ (thn (ha pins s σ H _ I h) fun v s1 ⟨x, H1, I1, r1, q1⟩ => ?_)
  obtain ⟨c, rfl, q1⟩ := q1
  cases r1
  exact not_of (wpAny_truthy_bool ⟨.bl (!c), H1, I1, rfl, q1⟩)
end
end L2
namespace L2
open PySem PySem.Spec PyProof.Rows
def SqL (K : PySem.W.Frag) (H : Hp) (a : Addr) (xs : List V) : Prop :=
  Rd H a (.lst xs) ∨
    ∃ (o : Obj) (its : Array Value) (n : Nat), K.lookup a = some o ∧ o.cls = .type "list" ∧ o.dict = none ∧ o.data = .seq its n ∧ its.size ≤ sizeLine ∧ Vals xs its.toList
def SqT (K : PySem.W.Frag) (H : Hp) (a : Addr) (xs : List V) : Prop :=
  Rd H a (.tup xs) ∨
    ∃ (o : Obj) (its : Array Value) (n : Nat), K.lookup a = some o ∧ o.cls = .type "tuple" ∧ o.data = .seq its n ∧ its.size ≤ sizeLine ∧ Vals xs its.toList
def absV : Value → Option V
  | .none => some .non
  | .bool b => some (.bl b)
  | .int i _ => some (.int i)
  | .str x _ => some (.str x)
  | .bytes b _ => some (.byt b)
  | .float b _ => some (.flt b)
  | .ref a => some (.ref a)
  | .type n => some (.ty n)
  | _ => none
theorem RelV.abs {x : V} {u : Value} (r : RelV x u) : absV u = some x := by
  cases x with
  | non => cases r; rfl
  | bl _ => cases r; rfl
  | int _ => obtain ⟨t, rfl⟩ := r; rfl
  | str _ => obtain ⟨t, rfl⟩ := r; rfl
  | byt _ => obtain ⟨t, rfl⟩ := r; rfl
  | flt _ => obtain ⟨t, rfl⟩ := r; rfl
  | ref _ => cases r; rfl
  | ty _ => cases r; rfl
theorem RelV.inj {x y : V} {u : Value} (r : RelV x u) (q : RelV y u) : x = y := Option.some.inj (r.abs.symm.trans q.abs)
theorem Vals.inj : ∀ {xs ys : List V} {us : List Value}, Vals xs us → Vals ys us → xs = ys
  | _, _, _, .nil, .nil => rfl
  | _, _, _, .cons r t, .cons r' t' => by rw [r.inj r', Vals.inj t t']
section
variable {X : Cx} {pins : List (Addr × Obj)} {σ : St} {H : Hp} {s : Shared} {a : Addr} {xs ys : List V}
theorem SqL.of {K : PySem.W.Frag} (h : H a = some (.lst xs)) : SqL K H a xs := .inl (.inl h)
theorem SqT.of {K : PySem.W.Frag} (h : H a = some (.tup xs)) : SqT K H a xs := .inl (.inl h)
theorem Inv.list (I : Inv X pins σ H s) (h : SqL X.K H a xs) : ∃ its : List Value, Vals xs its ∧ PlainL s.heap a its.toArray ∧ xs.length ≤ sizeLine := by
  rcases h with h | ⟨o, its, n, hk, hc, hd, hs, hz, r⟩
  · obtain ⟨z, its, n, r, e⟩ := h.ok I.hok
    exact ⟨its, r, ⟨_, n, e, rfl, rfl, rfl⟩, z⟩
  · refine ⟨its.toList, r, ⟨o, n, I.kIn a o hk, hc, hd, by simpa using hs⟩, ?_⟩
    have e := r.length
    simp only [Array.length_toList] at e
    omega
theorem Inv.tuple (I : Inv X pins σ H s) (h : SqT X.K H a xs) : ∃ its : List Value, Vals xs its ∧ IsTup s.heap a its.toArray ∧ xs.length ≤ sizeLine := by
  rcases h with h | ⟨o, its, n, hk, hc, hs, hz, r⟩
  · obtain ⟨z, its, r, p⟩ := h.ok I.hok
    exact ⟨its, r, p, z⟩
  · refine ⟨its.toList, r, ⟨o, I.kIn a o hk, hc, n, by simpa using hs⟩, ?_⟩
    have e := r.length
    simp only [Array.length_toList] at e
    omega
theorem Inv.list_inj (I : Inv X pins σ H s) (h : SqL X.K H a xs) (h' : SqL X.K H a ys) : xs = ys := by
  obtain ⟨its, r, ⟨o, n, e, _, _, d⟩, _⟩ := I.list h
  obtain ⟨its', r', ⟨o', n', e', _, _, d'⟩, _⟩ := I.list h'
  rw [e] at e'; cases e'
  rw [d] at d'
  injection d' with d1 _
  have : its = its' := by simpa using congrArg Array.toList d1
  subst this
  exact r.inj r'
theorem Inv.tuple_inj (I : Inv X pins σ H s) (h : SqT X.K H a xs) (h' : SqT X.K H a ys) : xs = ys := by
  obtain ⟨its, r, ⟨o, e, _, n, d⟩, _⟩ := I.tuple h
  obtain ⟨its', r', ⟨o', e', _, n', d'⟩, _⟩ := I.tuple h'
  rw [e] at e'; cases e'
  rw [d] at d'
  injection d' with d1 _
  have : its = its' := by simpa using congrArg Array.toList d1
  subst this
  exact r.inj r'
end
section
variable {X : Cx} {pins : List (Addr × Obj)} {σ : St} {H : Hp} {s : Shared} {E : Value → Shared → Prop}
end
section
variable {X : Cx} {st : Stmt} {rest : List Stmt} {t u : TS} {e : Expr} {te : TE} {pos : Pos}
def tNext : TS := fun D σ H => D.nx σ H
def tSeq (t u : TS) : TS := fun D σ H => t { D with nx := u D } σ H
theorem pss_nil : PSs X [] tNext := fun _ _ σ H _ I h => wpAny_execs_nil ⟨σ, H, I, h⟩
theorem pss_cons (h1 : PS X st t) (h2 : PSs X rest u) : PSs X (st :: rest) (tSeq t u) := by
  intro pins s σ H D I h
  refine wpAny_execs_cons (thn (h1 pins s σ H { D with nx := u D } I h) fun f s1 q => ?_)
  cases f with
  | next =>
    obtain ⟨σ', H', I', q⟩ := q
    exact h2 pins s1 σ' H' D I' q
  | ret v => exact q
  | brk => exact q
  | cont => exact q
theorem pss_one (h1 : PS X st t) : PSs X [st] t := by
  intro pins s σ H D I h
  refine wpAny_execs_cons (thn (h1 pins s σ H D I h) fun f s1 q => ?_)
  cases f with
  | next => exact wpAny_execs_nil q
  | ret v => exact q
  | brk => exact q
  | cont => exact q
theorem Inv.quiet {pins : List (Addr × Obj)} {σ : St} {H : Hp} {s : Shared} (I : Inv X pins σ H s) : interactive X.env = false := by simp [interactive, I.ok.kind]
def tDrop (te : TE) : TS := fun D σ H => te σ H fun _ H1 => D.nx σ H1
theorem ps_expr (he : PE X e te) (hs : swapsWith e none pos.line X.env = pure false := by rfl) : PS X (.Expr e pos) (tDrop te) := by
  intro pins s σ H D I h
  exact wpAny_Expr_any (thn (he pins s σ H _ I h) fun v s1 ⟨x, H1, I1, r1, q1⟩ => ⟨σ, H1, I1, q1⟩) I.quiet hs
def tRet (te : TE) : TS := fun D σ H => te σ H D.rt
theorem ps_ret (he : PE X e te) : PS X (.Return (some e) pos) (tRet te) := by
  intro pins s σ H D I h
  exact wpAny_Return_some (thn (he pins s σ H _ I h) fun v s1 ⟨x, H1, I1, r1, q1⟩ => ⟨x, σ, H1, I1, r1, q1⟩)
def tIfS (c : TT) (t u : TS) : TS := fun D σ H => c σ H fun b H1 => if b = true then t D σ H1 else u D σ H1
theorem ps_if {c : Expr} {a b : List Stmt} {tc : TT} (hc : PT X c tc) (ha : PSs X a t) (hb : PSs X b u) : PS X (.If c a b pos) (tIfS tc t u) := by
  intro pins s σ H D I h
  refine wpAny_If (thn (hc pins s σ H _ I h) fun d s1 ⟨H1, I1, q1⟩ => ?_)
  cases d with
  | true => exact ha pins s1 σ H1 D I1 q1
  | false => exact hb pins s1 σ H1 D I1 q1
end
abbrev TG := V → St → Hp → (St → Hp → Prop) → Prop
abbrev TGs := List V → St → Hp → (St → Hp → Prop) → Prop
def PG (X : Cx) (target : Expr) (t : TG) : Prop :=
  ∀ (pins : List (Addr × Obj)) (s : Shared) (σ : St) (H : Hp) (v : V) (u : Value) (Q : St → Hp → Prop), Inv X pins σ H s → RelV v u → t v σ H Q →
    wpAny (model X.prog X.w) X.A (assign target X.env u) (fun _ s' => ∃ σ' H', Inv X pins σ' H' s' ∧ Q σ' H') X.xe s
def PGs (X : Cx) (ts : List Expr) (t : TGs) : Prop :=
  ∀ (pins : List (Addr × Obj)) (s : Shared) (σ : St) (H : Hp) (vs : List V) (us : List Value) (Q : St → Hp → Prop), Inv X pins σ H s → Vals vs us → t vs σ H Q →
    wpAny (model X.prog X.w) X.A (assignInOrder ((assignEach ts X.env).map (·.2)) us) (fun _ s' => ∃ σ' H', Inv X pins σ' H' s' ∧ Q σ' H') X.xe s
abbrev TSet := V → V → V → Hp → (Hp → Prop) → Prop
def PSet (X : Cx) (t : TSet) : Prop :=
  ∀ (pins : List (Addr × Obj)) (s : Shared) (σ : St) (H : Hp) (o i v : V) (ov iv u : Value) (Q : Hp → Prop), Inv X pins σ H s → RelV o ov → RelV i iv → RelV v u → t o i v H Q →
    wpAny (model X.prog X.w) X.A (setItem ov iv u) (fun _ s' => ∃ H', Inv X pins σ H' s' ∧ Q H') X.xe s
section
variable {X : Cx} {pos : Pos}
def gName (i : Nat) : TG := fun v σ H Q => Q (σ.set i (some v)) H
theorem pg_name {i : Nat} {x : Str} (hN : X.N.Nodup) (hi : X.N[i]? = some x) (hx : Loc X.env.scope x) (hf : X.fn x = true ∨ X.env.scope.names.lookup x = some .local := by first | exact .inl rfl | exact .inr rfl | assumption) : PG X (.Name x pos) (gName i) := by
  intro pins s σ H v u Q I r h
  exact wpAny_assign_Name (store_ok I hN hi hx r (fun s' I' => ⟨_, H, I', h⟩) hf)
def gSub (to ti : TE) (t : TSet) : TG := fun v σ H Q => to σ H fun o H1 => ti σ H1 fun i H2 => t o i v H2 fun H3 => Q σ H3
theorem pg_sub {o i : Expr} {to ti : TE} {t : TSet} (ho : PE X o to) (hi : PE X i ti) (hs : PSet X t)
    (ha : ∀ v, assign (.Subscript o i pos) X.env v = (do
      let ov ← holding [v] (eval o X.env)
      let iv ← holding [v, ov] (eval i X.env)
      standAt pos
      holding [v, ov, iv] (setItem ov iv v)
      release [v, ov, iv] []) := by intro _; rfl) : PG X (.Subscript o i pos) (gSub to ti t) := by
  intro pins s σ H v u Q I r h
  rw [ha]
  refine wpAny_bind (wpAny_holding (thn (ho pins s σ H _ I h) fun ov s1 ⟨x, H1, I1, r1, q1⟩ => ?_))
  refine wpAny_bind (wpAny_holding (thn (hi pins s1 σ H1 _ I1 q1) fun iv s2 ⟨y, H2, I2, r2, q2⟩ => ?_))
  refine wpAny_bind (wpAny_standAt (wpAny_bind (wpAny_holding (thn (hs pins s2 σ H2 x y v ov iv u _ I2 r1 r2 r q2) fun _ s3 ⟨H3, I3, q3⟩ => ?_))))
  exact wpAny_release ⟨σ, H3, I3, q3⟩
def tAsg (te : TE) (g : TG) : TS := fun D σ H => te σ H fun x H1 => g x σ H1 D.nx
theorem ps_asg {tg e : Expr} {te : TE} {g : TG} (he : PE X e te) (hg : PG X tg g) (hs : swapsWithSole [tg] e pos.line X.env = pure false := by rfl) (hw : swappedStores [tg] e X.env = pure none := by rfl)
    (h1 : (assignEach [tg] X.env).map (·.2) = [assign tg X.env] := by rfl) : PS X (.Assign [tg] e pos) (tAsg te g) := by
  intro pins s σ H D I h
  refine wpAny_Assign_stores (thn (he pins s σ H _ I h) fun v s1 ⟨x, H1, I1, r1, q1⟩ => ?_) hs hw
  rw [h1]
  exact thn (hg pins s1 σ H1 x v _ I1 r1 q1) fun _ s2 q => q
theorem ps_set {i : Nat} {x : Str} {e : Expr} {te : TE} {pos' : Pos} (hN : X.N.Nodup) (hi : X.N[i]? = some x) (hx : Loc X.env.scope x) (he : PE X e te) (hs : swapsWith e (some (.Name x pos')) pos.line X.env = pure false := by rfl) (hf : X.fn x = true ∨ X.env.scope.names.lookup x = some .local := by first | exact .inl rfl | exact .inr rfl | assumption) :
    PS X (.Assign [.Name x pos'] e pos) (tAsg te (gName i)) := by
  intro pins s σ H D I h
  refine wpAny_Assign_Name (thn (he pins s σ H _ I h) fun v s1 ⟨y, H1, I1, r1, q1⟩ => ?_) hs
  exact store_ok I1 hN hi hx r1 (fun s2 I2 => ⟨_, H1, I2, q1⟩) hf
end
section
variable {X : Cx} {pos : Pos}
end
structure It where
  go : Nat → Hp → Prop
  yld : Nat → Hp → V → Hp → Prop
  stop : Nat → Hp → Prop
def FpOk (X : Cx) (pins : List (Addr × Obj)) (H : Hp) (b : Addr) : Prop :=
  H b = none ∧ b ≠ X.env.locals ∧ b ∉ X.fs ∧ (b ∈ X.ex ∨ X.s₀.heap.objs.size ≤ b) ∧ (∀ x c, X.env.cells.lookup x = some c → c ≠ b) ∧ ∀ p ∈ X.pn ++ pins, p.1 ≠ b
theorem Inv.fpOk {X : Cx} {pins : List (Addr × Obj)} {σ : St} {H H' : Hp} {s : Shared} {b : Addr} (I : Inv X pins σ H s) (hb : s.heap.objs.size ≤ b) (hn : H' b = none) : FpOk X pins H' b := by
  refine ⟨hn, Nat.ne_of_gt (Nat.lt_of_lt_of_le I.lt hb), I.nofs hb, .inr (Nat.le_trans I.sz hb), fun x c e z => ?_, fun p hp z => ?_⟩
  · obtain ⟨v, q⟩ := I.cell x c e
    exact absurd (Nat.lt_of_lt_of_le q.lt (by rw [z]; exact hb)) (Nat.lt_irrefl _)
  · exact absurd (Nat.lt_of_lt_of_le (Heap.lt_size (I.pin p hp).1) (by rw [z]; exact hb)) (Nat.lt_irrefl _)
structure Turn (P : Program) (w : World) (K : PySem.W.Frag) (tg : Expr) (J : It) (fp : List Addr) (it : Addr) (tn : Nat → Heap → Prop) : Prop where
  mem : it ∈ fp
  obj : ∀ i h, tn i h → ∀ b ∈ fp, ∃ o, h.get? b = some o ∧ ∀ v, o.data ≠ .cell v
  keep : ∀ i h h', tn i h → (∀ b ∈ fp, ∀ o, h.get? b = some o → h'.get? b = some o) → tn i h'
  item : ∀ (X : Cx), X.prog = P → X.w = w → X.K = K → X.calm = true → ∀ (i : Nat) (pins : List (Addr × Obj)) (s : Shared) (σ : St) (H : Hp) (E : Value → Shared → Prop), Inv X pins σ H s → (∀ b ∈ fp, FpOk X pins H b) → tn i s.heap → J.go i H →
    wpAny (model P w) X.A (pyNext (.ref it)) (fun r s1 => ∃ u, r = some u ∧
      wpAny (model P w) X.A (letOwnedTupleGo tg (.ref it) u) (fun _ s2 => ∃ x H', Inv X pins σ H' s2 ∧ RelV x u ∧ J.yld i H x H' ∧ tn (i + 1) s2.heap ∧ ∀ b ∈ fp, H' b = none) E s1) E s
  done : ∀ (X : Cx), X.prog = P → X.w = w → X.K = K → X.calm = true → ∀ (i : Nat) (pins : List (Addr × Obj)) (s : Shared) (σ : St) (H : Hp) (E : Value → Shared → Prop), Inv X pins σ H s → (∀ b ∈ fp, FpOk X pins H b) → tn i s.heap → J.stop i H →
    wpAny (model P w) X.A (pyNext (.ref it)) (fun r s1 => r = none ∧ Inv X pins σ H s1) E s
  self : ∀ (A : Around) (i : Nat) (s : Shared) (Q : Value → Shared → Prop) (E : Value → Shared → Prop), tn i s.heap → Q (.ref it) s → wpAny (model P w) A (pyIter (.ref it)) Q E s
abbrev TI := St → Hp → (It → Hp → Prop) → Prop
def PIE (X : Cx) (pins : List (Addr × Obj)) (σ : St) (tg : Expr) (R : It → Hp → Prop) (itv : Value) (s2 : Shared) : Prop :=
  ∃ (it : Addr) (fp : List Addr) (tn : Nat → Heap → Prop) (J : It) (H' : Hp), itv = .ref it ∧ Inv X pins σ H' s2 ∧ Turn X.prog X.w X.K tg J fp it tn ∧ tn 0 s2.heap ∧ (∀ b ∈ fp, FpOk X pins H' b) ∧ R J H'
def PI (X : Cx) (tg iter : Expr) (wi : TI) : Prop :=
  ∀ (pins : List (Addr × Obj)) (s : Shared) (σ : St) (H : Hp) (R : It → Hp → Prop), Inv X pins σ H s → wi σ H R →
    wpAny (model X.prog X.w) X.A (eval iter X.env) (fun v s1 => wpAny (model X.prog X.w) X.A (pyIter v) (PIE X pins σ tg R) X.xe s1) X.xe s
theorem go_of {M : Model} {A : Around} {E : Value → Shared → Prop} {s : Shared} {tg : Expr} {it : Addr} {u : Value} {o : Obj} {n : String} {vs : Array Value} {Q : Unit → Shared → Prop} (ho : s.heap.get? it = some o) (hc : o.cls = .type n) (hd : o.data = .fields vs)
    (hn : ["enumerate", "zip", "dict_itemiterator", "dict_reverseitemiterator", "odict_iterator", "itertools.zip_longest", "itertools.pairwise"].contains n = false) (hQ : Q () s) : wpAny M A (letOwnedTupleGo tg (.ref it) u) Q E s := by
  unfold letOwnedTupleGo
  cases tg <;> first
    | exact wpAny_pure hQ
    | (cases u <;> first
        | exact wpAny_pure hQ
        | (refine wpAny_bind (wpAny_load ho ?_)
           rw [hc, hd]
           show wpAny M A (if (["enumerate", "zip", "dict_itemiterator", "dict_reverseitemiterator", "odict_iterator", "itertools.zip_longest", "itertools.pairwise"].contains n && vs[0]? == some (rawInt _)) = true then _ else _) Q E s
           rw [if_neg (by intro h; rw [hn, Bool.false_and] at h; cases h)]
           exact wpAny_pure hQ))
def Itl (K : PySem.W.Frag) (a : Addr) : It :=
  ⟨fun i H => ∃ xs x, SqL K H a xs ∧ xs[i]? = some x, fun i H x H' => H' = H ∧ ∀ xs, SqL K H a xs → xs[i]? = some x, fun i H => ∃ xs, SqL K H a xs ∧ xs.length ≤ i⟩
def Itt (K : PySem.W.Frag) (a : Addr) : It :=
  ⟨fun i H => ∃ xs x, SqT K H a xs ∧ xs[i]? = some x, fun i H x H' => H' = H ∧ ∀ xs, SqT K H a xs → xs[i]? = some x, fun i H => ∃ xs, SqT K H a xs ∧ xs.length ≤ i⟩
def Itr (lo : Int) (n : Nat) : It := ⟨fun i _ => i < n, fun i H x H' => H' = H ∧ x = .int (lo + i), fun i _ => n ≤ i⟩
theorem turn_list {P : Program} {w : World} {K : PySem.W.Frag} {tg : Expr} (a it : Addr) : Turn P w K tg (Itl K a) [it] it (fun i h => h.IsListIter it a i) where
  mem := by simp
  obj := fun i h st b hb => by
    have e : b = it := by simpa using hb
    subst e
    obtain ⟨o, e, c, d⟩ := st
    exact ⟨o, e, fun v z => by rw [d] at z; cases z⟩
  keep := fun i h h' st k => st.at fun o e => k it (by simp) o e
  item := by
    intro X hP hw hK hc i pins s σ H E I hf st hg
    subst hP hw hK
    obtain ⟨xs, x, hq, hx⟩ := hg
    obtain ⟨its, rv, p, hz⟩ := I.list hq
    obtain ⟨u, hu, ru⟩ := rv.get hx
    obtain ⟨f0, f1, f2, f3, f4, f5⟩ := hf it (by simp)
    refine wpAny_pyNext_list_item st p.isList (x := u) (by simpa using hu) fun h' st' sb => ?_
    have I1 : Inv X pins σ H { s with heap := h' } := I.turned (t' := s.toks) (fun b o hb e => (sb.2 b hb).trans e) f0 f1 f3 f4 f5
    obtain ⟨o, e, c, d⟩ := id st'
    exact ⟨u, rfl, go_of (s := { s with heap := h' }) e c d (by decide) ⟨x, H, I1, ru, ⟨rfl, fun ys hy => by rw [I.list_inj hy hq]; exact hx⟩, st', fun b hb => (hf b hb).1⟩⟩
  done := by
    intro X hP hw hK hc i pins s σ H E I hf st hg
    subst hP hw hK
    obtain ⟨xs, hq, hx⟩ := hg
    obtain ⟨its, rv, p, hz⟩ := I.list hq
    obtain ⟨f0, f1, f2, f3, f4, f5⟩ := hf it (by simp)
    have hl := rv.length
    exact wpAny_pyNext_list_end (I.ok.hd hc) st p.isList (by simp; omega) fun h' eb => ⟨rfl, I.turned (t' := s.toks) (fun b o hb e => eb b o hb e) f0 f1 f3 f4 f5⟩
  self := fun _ _ _ _ _ st h => wpAny_pyIter_listiter st h
theorem turn_tuple {P : Program} {w : World} {K : PySem.W.Frag} {tg : Expr} (a it : Addr) : Turn P w K tg (Itt K a) [it] it (fun i h => h.IsTupleIter it a i) where
  mem := by simp
  obj := fun i h st b hb => by
    have e : b = it := by simpa using hb
    subst e
    obtain ⟨o, e, c, d⟩ := st
    exact ⟨o, e, fun v z => by rw [d] at z; cases z⟩
  keep := fun i h h' st k => st.at fun o e => k it (by simp) o e
  item := by
    intro X hP hw hK hc i pins s σ H E I hf st hg
    subst hP hw hK
    obtain ⟨xs, x, hq, hx⟩ := hg
    obtain ⟨its, rv, p, hz⟩ := I.tuple hq
    obtain ⟨u, hu, ru⟩ := rv.get hx
    obtain ⟨f0, f1, f2, f3, f4, f5⟩ := hf it (by simp)
    refine wpAny_pyNext_tuple_item st (show s.heap.IsTuple a its.toArray from p) (x := u) (by simpa using hu) fun h' st' sb => ?_
    have I1 : Inv X pins σ H { s with heap := h' } := I.turned (t' := s.toks) (fun b o hb e => (sb.2 b hb).trans e) f0 f1 f3 f4 f5
    obtain ⟨o, e, c, d⟩ := id st'
    exact ⟨u, rfl, go_of (s := { s with heap := h' }) e c d (by decide) ⟨x, H, I1, ru, ⟨rfl, fun ys hy => by rw [I.tuple_inj hy hq]; exact hx⟩, st', fun b hb => (hf b hb).1⟩⟩
  done := by
    intro X hP hw hK hc i pins s σ H E I hf st hg
    subst hP hw hK
    obtain ⟨xs, hq, hx⟩ := hg
    obtain ⟨its, rv, p, hz⟩ := I.tuple hq
    obtain ⟨f0, f1, f2, f3, f4, f5⟩ := hf it (by simp)
    have hl := rv.length
    exact wpAny_pyNext_tuple_end (I.ok.hd hc) st (show s.heap.IsTuple a its.toArray from p) (by simp; omega) fun h' eb => ⟨rfl, I.turned (t' := s.toks) (fun b o hb e => eb b o hb e) f0 f1 f3 f4 f5⟩
  self := fun _ _ _ _ _ st h => wpAny_pyIter_tupleiter st h
theorem turn_range {P : Program} {w : World} {K : PySem.W.Frag} {tg : Expr} (it : Addr) (lo : Int) (n : Nat) : Turn P w K tg (Itr lo n) [it] it (fun i h => IsRangeIter h it (lo + (i : Nat) * 1) ((n : Int) - (i : Nat)) 1) where
  mem := by simp
  obj := fun i h st b hb => by
    have e : b = it := by simpa using hb
    subst e
    exact ⟨_, st, fun v z => by
      have z' : Data.fields _ = Data.cell v := z
      cases z'⟩
  keep := fun i h h' st k => k it (by simp) _ st
  item := by
    intro X hP hw hK hc i pins s σ H E I hf st hg
    subst hP hw hK
    obtain ⟨f0, f1, f2, f3, f4, f5⟩ := hf it (by simp)
    have W := Walks.range (prog := X.prog) (w := X.w) (I.ok.hd hc) it lo 1 n
    refine W.item i s _ _ hg st fun v h' tk hv st' kk => ?_
    obtain ⟨t, rfl⟩ := hv
    have I1 : Inv X pins σ H { s with heap := h', toks := tk } := I.turned (fun b o hb e => kk b o (by simpa using hb) e) f0 f1 f3 f4 f5
    refine ⟨_, rfl, go_of (s := { s with heap := h', toks := tk }) (n := "range_iterator") st' rfl rfl (by decide) ⟨.int (lo + i), H, I1, ⟨t, ?_⟩, ⟨rfl, rfl⟩, st', fun b hb => (hf b hb).1⟩⟩
    rw [Int.mul_one]
  done := by
    intro X hP hw hK hc i pins s σ H E I hf st hg
    subst hP hw hK
    obtain ⟨f0, f1, f2, f3, f4, f5⟩ := hf it (by simp)
    exact wpAny_pyNext_range_end (I.ok.hd hc) st (by have : n ≤ i := hg; omega) fun h' eb => ⟨rfl, I.turned (t' := s.toks) (fun b o hb e => eb b o hb e) f0 f1 f3 f4 f5⟩
  self := fun _ _ _ _ _ st h => wpAny_pyIter_rangeiter st h
end L2
namespace L2
open PySem PySem.Spec PyProof.Rows
section
variable {X : Cx} {tg : Expr}
def iList (K : PySem.W.Frag) (tl : TE) : TI := fun σ H R => tl σ H fun x H1 => ∃ a, x = .ref a ∧ (∃ xs, SqL K H1 a xs) ∧ R (Itl K a) H1
theorem pi_list {l : Expr} {tl : TE} (hl : PE X l tl) : PI X tg l (iList X.K tl) := by
  intro pins s σ H R I h
  refine thn (hl pins s σ H _ I h) fun v s1 ⟨x, H1, I1, r1, q1⟩ => ?_
  obtain ⟨a, e, ⟨xs, hq⟩, q⟩ := q1
  subst e
  cases r1
  obtain ⟨its, rv, p, hz⟩ := I1.list hq
  refine wpAny_pyIter_list p.isList ?_
  refine ⟨s1.heap.objs.size, [s1.heap.objs.size], _, _, H1, rfl, I1.kept (t' := s1.toks) fun b o e => Heap.get?_push_of_some _ e, turn_list a _, ⟨_, Heap.get?_push_size _ rfl, rfl, rfl⟩, fun b hb => ?_, q⟩
  have e : b = s1.heap.objs.size := by simpa using hb
  subst e
  exact I1.fpOk (Nat.le_refl _) (I1.hok.fresh (Nat.le_refl _))
theorem range_it {pins : List (Addr × Obj)} {σ : St} {H : Hp} {s : Shared} {R : It → Hp → Prop} {E : Value → Shared → Prop} {lo hi : Int} {t u v : Tok} {tk : Nat} (I : Inv X pins σ H s) (h1 : -(2 ^ 62) ≤ lo) (h2 : lo < 2 ^ 62) (h3 : -(2 ^ 62) ≤ hi) (h4 : hi < 2 ^ 62)
    (q : R (Itr lo (hi - lo).toNat) H) : wpAny (model X.prog X.w) X.A (pyIter (.ref s.heap.objs.size)) (PIE X pins σ tg R) E { s with heap := s.heap.push { cls := .type "range", data := .fields #[.int lo t, .int hi u, .int 1 v] }, toks := tk } := by
  refine wpAny_pyIter_range (IsRange.new ..) (small_one h1 h2 h3 h4) ?_
  have I1 : Inv X pins σ H { s with heap := s.heap.push { cls := .type "range", data := .fields #[.int lo t, .int hi u, .int 1 v] }, toks := tk } := I.kept fun b o e => Heap.get?_push_of_some _ e
  refine ⟨(s.heap.push { cls := .type "range", data := .fields #[.int lo t, .int hi u, .int 1 v] }).objs.size, [(s.heap.push { cls := .type "range", data := .fields #[.int lo t, .int hi u, .int 1 v] }).objs.size], _, _, H, rfl,
    I1.kept (t' := tk) fun b o e => Heap.get?_push_of_some _ e, turn_range _ lo (hi - lo).toNat, ?_, fun b hb => ?_, q⟩
  · have e1 : lo + ((0 : Nat) : Int) * 1 = lo := by simp
    have e2 : (((hi - lo).toNat : Nat) : Int) - ((0 : Nat) : Int) = Builtin.Range.rangeSize lo hi 1 := by rw [rangeSize_one]; split <;> omega
    show IsRangeIter _ _ (lo + ((0 : Nat) : Int) * 1) ((((hi - lo).toNat : Nat) : Int) - ((0 : Nat) : Int)) 1
    rw [e1, e2]
    exact Heap.get?_push_size _ rfl
  · have e : b = (s.heap.push { cls := .type "range", data := .fields #[.int lo t, .int hi u, .int 1 v] }).objs.size := by simpa using hb
    subst e
    exact I1.fpOk (Nat.le_refl _) (I1.hok.fresh (Nat.le_refl _))
def iRng1 (ta : TA) : TI := fun σ H R => ta σ H fun vs H1 => ∃ j : Int, vs = [.int j] ∧ -(2 ^ 62) ≤ j ∧ j < 2 ^ 62 ∧ R (Itr 0 j.toNat) H1
theorem pi_range1 {a : Expr} {ta : TA} {p pos : Pos} (hg : Gl X "range") (hm : X.mg "range" = none) (ha : PA X [a] ta) (hs : starEach [a] X.env = [(false, eval a X.env)] := by rfl) : PI X tg (.Call (.Name "range" p) [a] [] pos) (iRng1 ta) := by
  intro pins s σ H R I h
  refine Call_ (ld_blt I hg hm boot_range (PyProof.Rows.callWith_type1 (thn (ha pos pins s σ H _ I h) fun us s1 ⟨vs, H1, I1, r1, q1⟩ => ?_) hs rfl))
  obtain ⟨j, e, q1, q2, q⟩ := q1
  subst e
  cases r1 with
  | cons r rr =>
    cases rr
    obtain ⟨t, rfl⟩ := r
    exact call_range_1 (range_it I1 (by omega) (by omega) q1 q2 (by simpa using q))
def tFor (wi : TI) (g : TG) (tb : TS) : TS := fun D σ H => wi σ H fun J H1 => ∃ W : Nat → Nat → St → Hp → Prop, (∃ m, W 0 m σ H1) ∧ ∀ i m σ H, W i m σ H →
  (J.stop i H ∧ D.nx σ H) ∨ (J.go i H ∧ ∃ N : St → Hp → Prop, (∀ σ' H', N σ' H' → ∃ m', m' < m ∧ W (i + 1) m' σ' H') ∧ ∀ x H', J.yld i H x H' → g x σ H' fun σ2 H2 => tb { D with nx := N, ct := N, bk := D.nx } σ2 H2)
def pinsAt (fp : List Addr) (h : Heap) : List (Addr × Obj) := fp.filterMap fun b => (h.get? b).map fun o => (b, o)
theorem mem_pinsAt {fp : List Addr} {h : Heap} {b : Addr} {o : Obj} (hb : b ∈ fp) (e : h.get? b = some o) : (b, o) ∈ pinsAt fp h := List.mem_filterMap.mpr ⟨b, hb, by rw [e]; rfl⟩
theorem of_pinsAt {fp : List Addr} {h : Heap} {p : Addr × Obj} (hp : p ∈ pinsAt fp h) : p.1 ∈ fp ∧ h.get? p.1 = some p.2 := by
  obtain ⟨b, hb, e⟩ := List.mem_filterMap.mp hp
  cases q : h.get? b with
  | none => rw [q] at e; cases e
  | some o =>
    rw [q] at e
    have e' : (b, o) = p := Option.some.inj e
    subst e'
    exact ⟨hb, q⟩
theorem Inv.pinned {pins : List (Addr × Obj)} {σ : St} {H : Hp} {s : Shared} {fp : List Addr} (I : Inv X pins σ H s) (hf : ∀ b ∈ fp, FpOk X pins H b) (ho : ∀ b ∈ fp, ∃ o, s.heap.get? b = some o ∧ ∀ v, o.data ≠ .cell v) : Inv X (pins ++ pinsAt fp s.heap) σ H s :=
  I.pins_of fun p hp => (List.mem_append.mp hp).elim (fun z => I.pin p (List.mem_append_right _ z)) fun z => by
    obtain ⟨hb, e⟩ := of_pinsAt z
    obtain ⟨f0, f1, f2, _⟩ := hf p.1 hb
    obtain ⟨o, e', d⟩ := ho p.1 hb
    rw [e] at e'; cases e'
    exact ⟨e, f0, f1, f2, d⟩
theorem Inv.unpinned {pins pl : List (Addr × Obj)} {σ : St} {H : Hp} {s : Shared} (I : Inv X (pins ++ pl) σ H s) : Inv X pins σ H s := I.pins_of fun p hp => I.pin p (List.mem_append_right _ (List.mem_append_left _ hp))
theorem ps_for {iter : Expr} {body : List Stmt} {wi : TI} {g : TG} {tb : TS} {pos : Pos} (hp : PassesOwn (model X.prog X.w) X.A X.env X.xe) (hc : X.calm = true) (hi : PI X tg iter wi) (hg : PG X tg g) (hb : PSs X body tb)
    (hs : ∀ x, foldedSetIterable iter X.env x = pure x := by intro _; rfl) : PS X (.For tg iter body [] pos) (tFor wi g tb) := by
  intro pins s σ H D I h
  refine wpAny_For (thn (hi pins s σ H _ I h) fun v s1 h1 => thn h1 fun itv s2 h2 => ?_) hs
  obtain ⟨it, fp, tn, J, H2, e, I2, T, st2, f2, W, ⟨m0, w0⟩, turn⟩ := h2
  subst e
  -- what stays true of the iterator's objects through the loop
  have stat : ∀ {H' : Hp}, (∀ b ∈ fp, H' b = none) → ∀ b ∈ fp, FpOk X pins H' b := fun hn b hb => ⟨hn b hb, (f2 b hb).2⟩
  refine codeAny_forLoop_any (fun n s' => ∃ i σ' H', Inv X pins σ' H' s' ∧ tn i s'.heap ∧ (∀ b ∈ fp, H' b = none) ∧ W i n σ' H') ?_ m0 ⟨0, σ, H2, I2, st2, fun b hb => (f2 b hb).1, w0⟩
  rintro n s3 ⟨i, σ3, H3, I3, st3, fr3, w3⟩
  rcases turn i n σ3 H3 w3 with ⟨stop, qn⟩ | ⟨go, N, hN, step⟩
  · refine wpAny_passesOwn hp (thn (T.done X rfl rfl rfl hc i pins s3 σ3 H3 X.xe I3 (stat fr3) st3 stop) fun r s4 ⟨hr, I4⟩ => ?_)
    subst hr
    exact wpAny_execs_nil ⟨σ3, H3, I4, qn⟩
  · refine wpAny_passesOwn hp (thn (T.item X rfl rfl rfl hc i pins s3 σ3 H3 X.xe I3 (stat fr3) st3 go) fun r s4 ⟨u, hr, h4⟩ => ?_)
    subst hr
    refine wpAny_passesOwn hp (thn h4 fun _ s5 ⟨x, H5, I5, r5, y5, st5, fr5⟩ => ?_)
    have I5' := I5.pinned (stat fr5) (T.obj _ _ st5)
    refine wpAny_passesOwn hp (thn (hg _ s5 σ3 H5 x u _ I5' r5 (step x H5 y5)) fun _ s6 ⟨σ6, H6, I6, q6⟩ => ?_)
    refine wpAny_passesOwn hp (thn (hb _ s6 σ6 H6 _ I6 q6) fun f s7 q7 => ?_)
    have again : ∀ {σ7 : St} {H7 : Hp}, Inv X (pins ++ pinsAt fp s5.heap) σ7 H7 s7 → N σ7 H7 → ∃ m, m < n ∧ ∃ i σ' H', Inv X pins σ' H' s7 ∧ tn i s7.heap ∧ (∀ b ∈ fp, H' b = none) ∧ W i m σ' H' := fun {σ7 H7} I7 n7 => by
      obtain ⟨m', hm, w7⟩ := hN σ7 H7 n7
      refine ⟨m', hm, i + 1, σ7, H7, I7.unpinned, T.keep _ _ _ st5 fun b hb o e => (I7.pin (b, o) (List.mem_append_right _ (List.mem_append_right _ (mem_pinsAt hb e)))).1, fun b hb => ?_, w7⟩
      obtain ⟨o, e, d⟩ := T.obj _ _ st5 b hb
      exact (I7.pin (b, o) (List.mem_append_right _ (List.mem_append_right _ (mem_pinsAt hb e)))).2.1
    cases f with
    | next => obtain ⟨σ7, H7, I7, n7⟩ := q7; exact again I7 n7
    | cont => obtain ⟨σ7, H7, I7, n7⟩ := q7; exact again I7 n7
    | brk => obtain ⟨σ7, H7, I7, q7⟩ := q7; exact ⟨σ7, H7, I7.unpinned, q7⟩
    | ret v => obtain ⟨x7, σ7, H7, I7, r7, q7⟩ := q7; exact ⟨x7, σ7, H7, I7.unpinned, r7, q7⟩
end
end L2
namespace L2
open PySem PySem.Spec PyProof.Rows
abbrev R2 := V → V → Hp → VK → Prop
def OpR (X : Cx) (f : Value → Value → Sem Value) (r : R2) : Prop :=
  ∀ (pins : List (Addr × Obj)) (s : Shared) (σ : St) (H : Hp) (x y : V) (v u : Value) (Q : VK), Inv X pins σ H s → RelV x v → RelV y u → r x y H Q →
    wpAny (model X.prog X.w) X.A (f v u) (EP X pins σ Q) X.xe s
def UnR (X : Cx) (f : Value → Sem Value) (r : V → Hp → VK → Prop) : Prop :=
  ∀ (pins : List (Addr × Obj)) (s : Shared) (σ : St) (H : Hp) (x : V) (v : Value) (Q : VK), Inv X pins σ H s → RelV x v → r x H Q →
    wpAny (model X.prog X.w) X.A (f v) (EP X pins σ Q) X.xe s
def CallR (X : Cx) (f : Value) (r : List V → Hp → VK → Prop) : Prop :=
  ∀ (pins : List (Addr × Obj)) (s : Shared) (σ : St) (H : Hp) (xs : List V) (us : List Value) (Q : VK), Inv X pins σ H s → Vals xs us → r xs H Q →
    wpAny (model X.prog X.w) X.A (call f us) (EP X pins σ Q) X.xe s
def tOp (r : R2) (ta tb : TE) : TE := fun σ H Q => ta σ H fun x H1 => tb σ H1 fun y H2 => r x y H2 Q
def tUn (r : V → Hp → VK → Prop) (ta : TE) : TE := fun σ H Q => ta σ H fun x H1 => r x H1 Q
def rI (C : Int → Int → Prop) (g : Int → Int → V) : R2 := fun x y H Q => ∃ i j, x = .int i ∧ y = .int j ∧ C i j ∧ Q (g i j) H
def rI0 (g : Int → Int → V) : R2 := fun x y H Q => ∃ i j, x = .int i ∧ y = .int j ∧ Q (g i j) H
def rU (g : Int → V) : V → Hp → VK → Prop := fun x H Q => ∃ i, x = .int i ∧ Q (g i) H
section
variable {X : Cx} {a b c : Expr} {ta tb tc : TE} {pos : Pos}
theorem binT (ha : PE X a ta) (hb : PE X b tb) {pins : List (Addr × Obj)} {s : Shared} {σ : St} {H : Hp} {R : V → V → Hp → Prop} (I : Inv X pins σ H s)
    (h : ta σ H fun x H1 => tb σ H1 fun y H2 => R x y H2) {Q : Value → Shared → Prop} {f : Value → Value → Sem Value}
    (hf : ∀ v u s2 x y H2, Inv X pins σ H2 s2 → RelV x v → RelV y u → R x y H2 → wpAny (model X.prog X.w) X.A (f v u) Q X.xe s2) :
    wpAny (model X.prog X.w) X.A (eval a X.env) (fun v s₁ => wpAny (model X.prog X.w) X.A (eval b X.env) (fun u s₂ => wpAny (model X.prog X.w) X.A (f v u) Q X.xe s₂) X.xe s₁) X.xe s := by
  refine thn (ha pins s σ H _ I h) fun v s1 ⟨x, H1, I1, r1, q1⟩ => ?_
  refine thn (hb pins s1 σ H1 _ I1 q1) fun u s2 ⟨y, H2, I2, r2, q2⟩ => ?_
  exact hf v u s2 x y H2 I2 r1 r2 q2
theorem pe_op {op : Operator} {r : R2} (ho : OpR X (binaryOp op) r) (ha : PE X a ta) (hb : PE X b tb) : PE X (.BinOp a op b pos) (tOp r ta tb) := by
  intro pins s σ H Q I h
  exact wpAny_BinOp (binT ha hb I h fun v u s2 x y H2 I2 rx ry q => ho pins s2 σ H2 x y v u Q I2 rx ry q)
theorem pe_un {op : UnaryOp} {r : V → Hp → VK → Prop} (ho : UnR X (unaryOp op) r) (ha : PE X a ta) : PE X (.UnaryOp op a pos) (tUn r ta) := by
  intro pins s σ H Q I h
  exact UnaryOp_ (thn (ha pins s σ H _ I h) fun v s1 ⟨x, H1, I1, r1, q1⟩ => ho pins s1 σ H1 x v Q I1 r1 q1)
theorem opI {f : Value → Value → Sem Value} {C : Int → Int → Prop} {g : Int → Int → Int}
    (rule : ∀ (i j : Int) (t u : Tok) (s : Shared) (Q : Value → Shared → Prop) (E : Value → Shared → Prop), C i j → Q (.int (g i j) s.toks) { s with toks := s.toks + 1 } → wpAny (model X.prog X.w) X.A (f (.int i t) (.int j u)) Q E s) :
    OpR X f (rI C fun i j => .int (g i j)) := by
  intro pins s σ H x y v u Q I rx ry h
  obtain ⟨i, j, rfl, rfl, hc, q⟩ := h
  obtain ⟨t, rfl⟩ := rx
  obtain ⟨t', rfl⟩ := ry
  exact rule i j t t' s _ _ hc ⟨.int (g i j), H, I.tok _, ⟨_, rfl⟩, q⟩
theorem opI0 {f : Value → Value → Sem Value} {g : Int → Int → Int}
    (rule : ∀ (i j : Int) (t u : Tok) (s : Shared) (Q : Value → Shared → Prop) (E : Value → Shared → Prop), Q (.int (g i j) s.toks) { s with toks := s.toks + 1 } → wpAny (model X.prog X.w) X.A (f (.int i t) (.int j u)) Q E s) :
    OpR X f (rI0 fun i j => .int (g i j)) := by
  intro pins s σ H x y v u Q I rx ry h
  obtain ⟨i, j, rfl, rfl, q⟩ := h
  obtain ⟨t, rfl⟩ := rx
  obtain ⟨t', rfl⟩ := ry
  exact rule i j t t' s _ _ ⟨.int (g i j), H, I.tok _, ⟨_, rfl⟩, q⟩
theorem opB0 {f : Value → Value → Sem Value} {g : Int → Int → Bool}
    (rule : ∀ (i j : Int) (t u : Tok) (s : Shared) (Q : Value → Shared → Prop) (E : Value → Shared → Prop), Q (.bool (g i j)) s → wpAny (model X.prog X.w) X.A (f (.int i t) (.int j u)) Q E s) :
    OpR X f (rI0 fun i j => .bl (g i j)) := by
  intro pins s σ H x y v u Q I rx ry h
  obtain ⟨i, j, rfl, rfl, q⟩ := h
  obtain ⟨t, rfl⟩ := rx
  obtain ⟨t', rfl⟩ := ry
  exact rule i j t t' s _ _ ⟨.bl (g i j), H, I, rfl, q⟩
def CDiv (i j : Int) : Prop := 0 < j ∧ j < 1073741824
def CMul (i j : Int) : Prop := (-(2 ^ 64) < i ∧ i < 2 ^ 64) ∨ (-(2 ^ 64) < j ∧ j < 2 ^ 64)
theorem CMul.ok {i j : Int} (h : CMul i j) : IntMulOk i j := by
  rcases h with ⟨h1, h2⟩ | ⟨h1, h2⟩
  · exact .of_left (intBits_le_64 h1 h2)
  · exact .of_right (intBits_le_64 h1 h2)
theorem op_add : OpR X (binaryOp .Add) (rI0 fun i j => .int (i + j)) := opI0 fun _ _ _ _ _ _ _ q => add_int q
theorem op_sub : OpR X (binaryOp .Sub) (rI0 fun i j => .int (i - j)) := opI0 fun _ _ _ _ _ _ _ q => sub_int q
theorem op_mul : OpR X (binaryOp .Mult) (rI CMul fun i j => .int (i * j)) := opI fun _ _ _ _ _ _ _ hc q => mul_int q hc.ok
theorem op_fdiv : OpR X (binaryOp .FloorDiv) (rI CDiv fun i j => .int (i / j)) := opI fun i j _ _ _ _ _ hc q => by
  have h1 : (0 : Int) < j := hc.1
  have h2 : j < 1073741824 := hc.2
  exact floordiv_int (by omega) (by rw [Int.fdiv_eq_ediv_of_nonneg i (by omega)]; exact q) (.inl (PyProof.noPylong_small (by omega)))
theorem op_mod : OpR X (binaryOp .Mod) (rI (fun _ j => 0 < j) fun i j => .int (i % j)) := opI fun i j _ _ _ _ _ hc q => by
  have h1 : (0 : Int) < j := hc
  exact mod_int' (by omega) (by rw [Int.fmod_eq_emod_of_nonneg i (by omega)]; exact q)
theorem unI {f : Value → Sem Value} {g : Int → Int}
    (rule : ∀ (i : Int) (t : Tok) (s : Shared) (Q : Value → Shared → Prop) (E : Value → Shared → Prop), Q (.int (g i) s.toks) { s with toks := s.toks + 1 } → wpAny (model X.prog X.w) X.A (f (.int i t)) Q E s) :
    UnR X f (rU fun i => .int (g i)) := by
  intro pins s σ H x v Q I rx h
  obtain ⟨i, rfl, q⟩ := h
  obtain ⟨t, rfl⟩ := rx
  exact rule i t s _ _ ⟨.int (g i), H, I.tok _, ⟨_, rfl⟩, q⟩
theorem un_neg : UnR X (unaryOp .USub) (rU fun i => .int (-i)) := unI fun _ _ _ _ _ q => neg_int q
end
def scal : V → V → Bool
  | .non, .non => true | .non, .int _ => true | .int _, .non => true | .non, .bl _ => true | .bl _, .non => true | .non, .str _ => true | .str _, .non => true
  | .int _, .int _ => true | .bl _, .bl _ => true | .str _, .str _ => true | .byt _, .byt _ => true
  | .int _, .str _ => true | .str _, .int _ => true | .bl _, .str _ => true | .str _, .bl _ => true
  | _, _ => false
def rEq : R2 := fun x y H Q => scal x y = true ∧ Q (.bl (decide (x = y))) H
def rNe : R2 := fun x y H Q => scal x y = true ∧ Q (.bl (!decide (x = y))) H
theorem dec_int {i j : Int} : decide (V.int i = V.int j) = (i == j) := by
  rw [Bool.eq_iff_iff]
  simp
theorem dec_bl {i j : Bool} : decide (V.bl i = V.bl j) = (i == j) := by
  rw [Bool.eq_iff_iff]
  simp
theorem dec_str {i j : Str} : decide (V.str i = V.str j) = (i == j) := by
  rw [Bool.eq_iff_iff]
  simp
theorem dec_byt {i j : Array UInt8} : decide (V.byt i = V.byt j) = (i.toList == j.toList) := by
  rw [Bool.eq_iff_iff]
  cases i
  cases j
  simp
section
variable {X : Cx} {a b c : Expr} {ta tb tc : TE} {pos : Pos}
theorem fin_bl {pins : List (Addr × Obj)} {σ : St} {H : Hp} {s : Shared} {Q : VK} {k k' : Bool} (I : Inv X pins σ H s) (q : Q (.bl k) H) (e : k = k') : EP X pins σ Q (.bool k') s := by
  subst e
  exact ⟨.bl k, H, I, rfl, q⟩
theorem op_eq : OpR X (compareOp .Eq) rEq := by
  intro pins s σ H x y v u Q I rx ry h
  obtain ⟨hs, q⟩ := h
  cases x with
  | non =>
    cases rx
    cases y with
    | non => cases ry; exact PySem.EqNone.eq_none_none (fin_bl I q (by simp))
    | bl j => cases ry; exact PySem.EqNone.eq_none_bool (fin_bl I q (by simp))
    | int j => obtain ⟨t', rfl⟩ := ry; exact PySem.EqNone.eq_none_int (fin_bl I q (by simp))
    | str j => obtain ⟨t', rfl⟩ := ry; exact PySem.EqNone.eq_none_str (fin_bl I q (by simp))
    | _ => exact absurd (show false = true from hs) Bool.false_ne_true
  | bl i =>
    cases rx
    cases y with
    | non => cases ry; exact PySem.EqNone.eq_bool_none (fin_bl I q (by simp))
    | bl j => cases ry; exact eq_bool (fin_bl I q dec_bl)
    | str j => obtain ⟨t', rfl⟩ := ry; exact PySem.EqMixed.eq_bool_str (fin_bl I q (by simp))
    | _ => exact absurd (show false = true from hs) Bool.false_ne_true
  | int i =>
    obtain ⟨t, rfl⟩ := rx
    cases y with
    | non => cases ry; exact PySem.EqNone.eq_int_none (fin_bl I q (by simp))
    | int j => obtain ⟨t', rfl⟩ := ry; exact eq_int (fin_bl I q dec_int)
    | str j => obtain ⟨t', rfl⟩ := ry; exact PySem.EqMixed.eq_int_str (fin_bl I q (by simp))
    | _ => exact absurd (show false = true from hs) Bool.false_ne_true
  | str i =>
    obtain ⟨t, rfl⟩ := rx
    cases y with
    | non => cases ry; exact PySem.EqNone.eq_str_none (fin_bl I q (by simp))
    | bl j => cases ry; exact PySem.EqMixed.eq_str_bool (fin_bl I q (by simp))
    | int j => obtain ⟨t', rfl⟩ := ry; exact PySem.EqMixed.eq_str_int (fin_bl I q (by simp))
    | str j => obtain ⟨t', rfl⟩ := ry; exact eq_str (fin_bl I q dec_str)
    | _ => exact absurd (show false = true from hs) Bool.false_ne_true
  | byt i =>
    obtain ⟨t, rfl⟩ := rx
    cases y with
    | byt j => obtain ⟨t', rfl⟩ := ry; exact PySem.W.eq_bytes (fin_bl I q dec_byt)
    | _ => exact absurd (show false = true from hs) Bool.false_ne_true
  | _ => cases y <;> exact absurd (show false = true from hs) Bool.false_ne_true
theorem op_ne : OpR X (compareOp .NotEq) rNe := by
  intro pins s σ H x y v u Q I rx ry h
  obtain ⟨hs, q⟩ := h
  cases x with
  | non =>
    cases rx
    cases y with
    | non => cases ry; exact PySem.EqNone.ne_none_none (fin_bl I q (by simp))
    | bl j => cases ry; exact PySem.EqNone.ne_none_bool (fin_bl I q (by simp))
    | int j => obtain ⟨t', rfl⟩ := ry; exact PySem.EqNone.ne_none_int (fin_bl I q (by simp))
    | str j => obtain ⟨t', rfl⟩ := ry; exact PySem.EqNone.ne_none_str (fin_bl I q (by simp))
    | _ => exact absurd (show false = true from hs) Bool.false_ne_true
  | bl i =>
    cases rx
    cases y with
    | non => cases ry; exact PySem.EqNone.ne_bool_none (fin_bl I q (by simp))
    | bl j => cases ry; exact ne_bool (fin_bl I q (congrArg not dec_bl))
    | str j => obtain ⟨t', rfl⟩ := ry; exact PySem.EqMixed.ne_bool_str (fin_bl I q (by simp))
    | _ => exact absurd (show false = true from hs) Bool.false_ne_true
  | int i =>
    obtain ⟨t, rfl⟩ := rx
    cases y with
    | non => cases ry; exact PySem.EqNone.ne_int_none (fin_bl I q (by simp))
    | int j => obtain ⟨t', rfl⟩ := ry; exact ne_int (fin_bl I q (congrArg not dec_int))
    | str j => obtain ⟨t', rfl⟩ := ry; exact PySem.EqMixed.ne_int_str (fin_bl I q (by simp))
    | _ => exact absurd (show false = true from hs) Bool.false_ne_true
  | str i =>
    obtain ⟨t, rfl⟩ := rx
    cases y with
    | non => cases ry; exact PySem.EqNone.ne_str_none (fin_bl I q (by simp))
    | bl j => cases ry; exact PySem.EqMixed.ne_str_bool (fin_bl I q (by simp))
    | int j => obtain ⟨t', rfl⟩ := ry; exact PySem.EqMixed.ne_str_int (fin_bl I q (by simp))
    | str j => obtain ⟨t', rfl⟩ := ry; exact ne_str (fin_bl I q (congrArg not dec_str))
    | _ => exact absurd (show false = true from hs) Bool.false_ne_true
  | byt i =>
    obtain ⟨t, rfl⟩ := rx
    cases y with
    | byt j => obtain ⟨t', rfl⟩ := ry; exact PySem.W.ne_bytes (fin_bl I q (congrArg not dec_byt))
    | _ => exact absurd (show false = true from hs) Bool.false_ne_true
  | _ => cases y <;> exact absurd (show false = true from hs) Bool.false_ne_true
theorem op_lt : OpR X (compareOp .Lt) (rI0 fun i j => .bl (decide (i < j))) := opB0 fun _ _ _ _ _ _ _ q => lt_int q
theorem op_le : OpR X (compareOp .LtE) (rI0 fun i j => .bl (decide (i ≤ j))) := opB0 fun _ _ _ _ _ _ _ q => le_int q
theorem op_gt : OpR X (compareOp .Gt) (rI0 fun i j => .bl (decide (j < i))) := opB0 fun _ _ _ _ _ _ _ q => gt_int q
theorem OpR.or {f : Value → Value → Sem Value} {r r' : R2} (h : OpR X f r) (h' : OpR X f r') : OpR X f (fun x y H Q => r x y H Q ∨ r' x y H Q) := by
  intro pins s σ H x y v u Q I rx ry q
  rcases q with q | q
  · exact h pins s σ H x y v u Q I rx ry q
  · exact h' pins s σ H x y v u Q I rx ry q
theorem nomark (b : Expr) {op : CmpOp} (h : op ≠ .In := by decide) (h2 : op ≠ .NotIn := by decide) : behindInMarks op b = false := by
  have e1 : (op == CmpOp.In) = false := by cases op <;> first | rfl | exact absurd rfl h
  have e2 : (op == CmpOp.NotIn) = false := by cases op <;> first | rfl | exact absurd rfl h2
  cases b <;> simp [behindInMarks, e1, e2]
theorem pe_cmpR {op : CmpOp} {r : R2} (ho : OpR X (compareOp op) r) (ha : PE X a ta) (hb : PE X b tb) (hm : behindInMarks op b = false) : PE X (.Compare a [op] [b] pos) (tOp r ta tb) := by
  intro pins s σ H Q I h
  exact wpAny_Compare1 (binT ha hb I h fun v u s2 x y H2 I2 rx ry q => ho pins s2 σ H2 x y v u Q I2 rx ry q) hm
def tTest (t : TE) : TT := fun σ H Q => t σ H fun x H' => ∃ k, x = .bl k ∧ Q k H'
theorem pt_cmpR {op : CmpOp} {r : R2} (ho : OpR X (compareOp op) r) (ha : PE X a ta) (hb : PE X b tb) (hm : behindInMarks op b = false) : PT X (.Compare a [op] [b] pos) (tTest (tOp r ta tb)) := by
  intro pins s σ H Q I h
  refine wpAny_isTrue_Compare1 (thn (ha pins s σ H _ I h) fun v s1 ⟨x, H1, I1, r1, q1⟩ => thn (hb pins s1 σ H1 _ I1 q1) fun u s2 ⟨y, H2, I2, r2, q2⟩ =>
    thn (ho pins s2 σ H2 x y v u _ I2 r1 r2 q2) fun c s3 ⟨z, H3, I3, r3, k, e, q3⟩ => ?_) hm
  subst e
  cases r3
  exact wpAny_truthy_bool ⟨H3, I3, q3⟩
def tChain (r r' : R2) (ta tb tc : TE) : TE := fun σ H Q => ta σ H fun x H1 => tb σ H1 fun y H2 => r x y H2 fun z H3 => ∃ k, z = .bl k ∧
  (if k = true then tc σ H3 fun w' H4 => r' y w' H4 Q else Q (.bl false) H3)
theorem pe_chain {op op' : CmpOp} {r r' : R2} (ho : OpR X (compareOp op) r) (ho' : OpR X (compareOp op') r') (ha : PE X a ta) (hb : PE X b tb) (hc : PE X c tc)
    (hm : lastMarks [op, op'] [b, c] = false := by with_unfolding_all rfl) : PE X (.Compare a [op, op'] [b, c] pos) (tChain r r' ta tb tc) := by
  intro pins s σ H Q I h
  refine Compare_chain (thn (ha pins s σ H _ I h) fun v s1 ⟨x, H1, I1, r1, q1⟩ => chain_link (thn (hb pins s1 σ H1 _ I1 q1) fun u s2 ⟨y, H2, I2, r2, q2⟩ =>
    thn (ho pins s2 σ H2 x y v u _ I2 r1 r2 q2) fun d s3 ⟨z, H3, I3, r3, k, e, q3⟩ => ?_)) hm
  subst e
  cases r3
  refine wpAny_truthy_bool ?_
  cases k with
  | false => exact ite_ff ⟨.bl false, H3, I3, rfl, q3⟩
  | true => exact ite_tt (chain_last (thn (hc pins s3 σ H3 _ I3 q3) fun w' s4 ⟨z', H4, I4, r4, q4⟩ => ho' pins s4 σ H4 y z' u w' Q I4 r2 r4 q4))
theorem pt_chain {op op' : CmpOp} {r r' : R2} (ho : OpR X (compareOp op) r) (ho' : OpR X (compareOp op') r') (ha : PE X a ta) (hb : PE X b tb) (hc : PE X c tc)
    (hm : lastMarks [op, op'] [b, c] = false := by with_unfolding_all rfl) : PT X (.Compare a [op, op'] [b, c] pos) (tTest (tChain r r' ta tb tc)) := by
  intro pins s σ H Q I h
  refine isTrue_chain (thn (ha pins s σ H _ I h) fun v s1 ⟨x, H1, I1, r1, q1⟩ => test_link (thn (hb pins s1 σ H1 _ I1 q1) fun u s2 ⟨y, H2, I2, r2, q2⟩ =>
    thn (ho pins s2 σ H2 x y v u _ I2 r1 r2 q2) fun d s3 ⟨z, H3, I3, r3, k, e, q3⟩ => ?_)) hm
  subst e
  cases r3
  refine wpAny_truthy_bool ?_
  cases k with
  | false =>
    obtain ⟨k', e', q'⟩ := q3
    cases e'
    exact ite_ff ⟨H3, I3, q'⟩
  | true =>
    refine ite_tt (test_last (thn (hc pins s3 σ H3 _ I3 q3) fun w' s4 ⟨z', H4, I4, r4, q4⟩ => thn (ho' pins s4 σ H4 y z' u w' _ I4 r2 r4 q4) fun d' s5 ⟨z2, H5, I5, r5, k2, e2, q5⟩ => ?_))
    subst e2
    cases r5
    exact wpAny_truthy_bool ⟨H5, I5, q5⟩
theorem line63 : (sizeLine : Nat) < 2 ^ 63 := by rw [sizeLine_eq]; decide
theorem op_add_str : OpR X (binaryOp .Add) (fun x y H Q => ∃ i j, x = .str i ∧ y = .str j ∧ i.length + j.length ≤ sizeLine ∧ Q (.str (i ++ j)) H) := by
  intro pins s σ H x y v u Q I rx ry h
  obtain ⟨i, j, rfl, rfl, hz, q⟩ := h
  obtain ⟨t, rfl⟩ := rx
  obtain ⟨t', rfl⟩ := ry
  exact add_str (fun t' tk => ⟨.str (i ++ j), H, I.tok _, ⟨_, rfl⟩, q⟩) hz
theorem vals1 {x : V} {us : List Value} (r : Vals [x] us) : ∃ u, us = [u] ∧ RelV x u := by
  cases r with
  | cons r1 r2 => cases r2; exact ⟨_, rfl, r1⟩
theorem vals2 {x y : V} {us : List Value} (r : Vals [x, y] us) : ∃ u w', us = [u, w'] ∧ RelV x u ∧ RelV y w' := by
  cases r with
  | cons r1 r2 =>
    cases r2 with
    | cons r3 r4 => cases r4; exact ⟨_, _, rfl, r1, r3⟩
theorem call_max2 (hc : X.calm = true) : CallR X (.builtin "max") (fun xs H Q => ∃ i j, xs = [.int i, .int j] ∧ Q (.int (if j > i then j else i)) H) := by
  intro pins s σ H xs us Q I r h
  obtain ⟨i, j, rfl, q⟩ := h
  obtain ⟨u, w', rfl, ⟨t, rfl⟩, ⟨t', rfl⟩⟩ := vals2 r
  refine max_two_ints (I.ok.hd hc) fun h' tk k => ⟨_, H, I.kept k, ?_, q⟩
  by_cases hj : j > i
  · rw [if_pos hj, if_pos hj]; exact ⟨_, rfl⟩
  · rw [if_neg hj, if_neg hj]; exact ⟨_, rfl⟩
theorem call_min2 (hc : X.calm = true) : CallR X (.builtin "min") (fun xs H Q => ∃ i j, xs = [.int i, .int j] ∧ Q (.int (if j < i then j else i)) H) := by
  intro pins s σ H xs us Q I r h
  obtain ⟨i, j, rfl, q⟩ := h
  obtain ⟨u, w', rfl, ⟨t, rfl⟩, ⟨t', rfl⟩⟩ := vals2 r
  refine min_two_ints (I.ok.hd hc) fun h' tk k => ⟨_, H, I.kept k, ?_, q⟩
  by_cases hj : j < i
  · rw [if_pos hj, if_pos hj]; exact ⟨_, rfl⟩
  · rw [if_neg hj, if_neg hj]; exact ⟨_, rfl⟩
theorem call_int1 : CallR X (.type "int") (fun xs H Q => (∃ i, xs = [.int i] ∧ Q (.int i) H) ∨ ∃ k, xs = [.bl k] ∧ Q (.int (if k then 1 else 0)) H) := by
  intro pins s σ H xs us Q I r h
  rcases h with ⟨i, rfl, q⟩ | ⟨k, rfl, q⟩
  · obtain ⟨u, rfl, t, rfl⟩ := vals1 r
    exact call_int_int ⟨.int i, H, I, ⟨_, rfl⟩, q⟩
  · obtain ⟨u, rfl, r1⟩ := vals1 r
    cases r1
    exact call_int_bool ⟨.int (if k then 1 else 0), H, I.tok _, ⟨_, rfl⟩, q⟩
end
end L2
namespace L2
open PySem PySem.Spec PyProof.Rows
structure ObjM (h : Heap) (x dx C : Addr) (mA : Str → Option Value) : Prop where
  obj : h.get? x = some (PySem.W.instObj C dx)
  ns : h.Ns1 dx mA
  ne : dx ≠ x
theorem lookIn_ns {h : Heap} {dx : Addr} {mA : Str → Option Value} (n : h.Ns1 dx mA) : ∃ od, h.get? dx = some od ∧ ∀ name, PySem.W.lookIn name od = some (mA name) := by
  obtain ⟨o, es, ep, ho, hd, hk, _, hm⟩ := n
  refine ⟨o, ho, fun name => ?_⟩
  have e := hm name
  unfold nsFind findBy at e
  rw [← Array.find?_toList] at e
  unfold PySem.W.lookIn
  rw [hd]
  dsimp only
  split
  · rename_i y q
    rw [q] at e
    exact congrArg some e
  · rename_i q
    rw [q] at e
    have a : es.toList.any (·.refKey) = false := by
      rw [List.any_eq_false]
      intro y hy
      obtain ⟨z, t, hkey⟩ := hk y (Array.mem_toList_iff.mp hy)
      simp [DictEntry.refKey, hkey]
    have a' : ¬ es.toList.any (·.refKey) = true := by rw [a]; exact Bool.false_ne_true
    rw [if_neg a']
    exact congrArg some e
theorem ObjM.look {h : Heap} {x dx C : Addr} {mA : Str → Option Value} (I : ObjM h x dx C mA) : ∃ od, PySem.W.InstAt h x (PySem.W.instObj C dx) C (some od) ∧ ∀ name, PySem.W.lookIn name od = some (mA name) :=
  let ⟨od, ho, hl⟩ := lookIn_ns I.ns
  ⟨od, ⟨I.obj, rfl, rfl, ho⟩, hl⟩
section
variable {prog : Program} {w : World} {A : Around} {E : Value → Shared → Prop} {s : Shared} {K : PySem.W.Frag} {x dx C f : Addr} {mA : Str → Option Value} {name : Str} {v : Value}
theorem get_map {expr : Bool} {Q : Value → Shared → Prop} (X : K.In s.heap) (I : ObjM s.heap x dx C mA) (hg : PySem.W.plainGet K C name = true) (hh : PySem.W.hasDictIn K C = true)
    (ha : PySem.W.findIn K (.ref C) name = some none) (hv : mA name = some v) (hv' : PySem.W.handedIn v = true) (h : Q v { s with toks := s.toks + 1 }) :
    wpAny (model prog w) A (getAttr (.ref x) name expr) Q E s := by
  obtain ⟨od, J, hl⟩ := I.look
  exact PySem.W.get_value X J (PySem.W.plainGet_of hg).1 (PySem.W.findObj_own hh ha rfl (by rw [hl, hv])) hv' h
theorem set_map {ns : List Str} {Q : Unit → Shared → Prop} (X : K.In s.heap) (I : ObjM s.heap x dx C mA)
    (hs : PySem.W.findIn K (.ref C) "__setattr__" = some (some (.builtin "object.__setattr__"))) (hp : PySem.W.plainOver K C = true) (ht : PySem.W.takerIn K C name = some none) (hh : PySem.W.hasDictIn K C = true)
    (hw : PySem.Within mA ns) (hsz : ns.length ≤ sizeLine)
    (h : ∀ h', ObjM h' x dx C (fun y => if y = name then some v else mA y) → Heap.SameBut dx s.heap h' → Q () { s with heap := h', toks := s.toks + 2 }) :
    wpAny (model prog w) A (setAttr (.ref x) name v) Q E s := by
  obtain ⟨od, J, hl⟩ := I.look
  refine PySem.W.set_plain X J hs (PySem.W.osa_open (s := { s with toks := s.toks + 1 }) (r := none) X J hp ht fun b => ?_)
  obtain ⟨cd, hc, hd'⟩ := PySem.W.any_some hh
  have hx : s.heap.get? x = some ⟨.ref C, some dx, .plain, #[]⟩ := I.obj
  refine wpAny_bind (wpAny_pure (wpAny_bind (wpAny_bind (wpAny_loadPart hx (wpAny_bind (PySem.W.Looks.here (s := { s with toks := s.toks + 1 }) (PySem.W.looks_clsIn X hc) ?_))))))
  rw [hd']
  refine wpAny_pure (a := some dx) (wpAny_bind (wpAny_pure (wpAny_bind ?_)))
  refine wpAny_nsSet1 (s := { s with toks := s.toks + 1 }) I.ns fun h' hn2 hs2 => ?_
  obtain ⟨oD, esD, epD, hoD, hdD, hcD⟩ := hn2.count (PySem.Within.cons name v hw)
  refine wpAny_bind (wpAny_lookBehind hoD (by rw [hdD]; exact pastItsLine_dict (Nat.le_trans hcD (by rw [List.length_cons]; omega))) ?_)
  exact wpAny_pure (h _ ⟨(hs2.2 _ (Ne.symm I.ne)).trans I.obj, hn2, I.ne⟩ hs2)
theorem make_map {R : Result → Shared → Prop} {vs : List Value} {kw : List (Str × Value)} (X : K.In s.heap) (hm : PySem.W.makesIn K C = true)
    (hi : PySem.W.findIn K (.ref C) "__init__" = some (some (.ref f))) (hf : PySem.W.typeIn K (.ref f) = some (.type "function"))
    (h : codeAny (model prog w) (A.under (.builtin "type.__call__" ⟨.ref C :: vs, kw⟩)) (.call (.ref f) ⟨.ref (s.heap.objs.size + 1) :: vs, kw⟩) (PySem.W.InitBack (s.heap.objs.size + 1) R)
      { s with heap := (s.heap.push PySem.W.emptyDict).push (PySem.W.instObj C s.heap.objs.size) }) :
    codeAny (model prog w) A (.call (.ref C) ⟨vs, kw⟩) R s := by
  obtain ⟨hh, g, d, t, os⟩ := s
  exact PySem.W.make_core (PySem.W.makes_of X hm) (PySem.W.looks_findIn X hi) (fun self => PySem.W.bind_fn X self hf) (.inl rfl) h
end
def putF (f : Str) (v : V) : List (Str × V) → List (Str × V)
  | [] => [(f, v)]
  | (g, x) :: r => if g = f then (g, v) :: r else (g, x) :: putF f v r
theorem lookup_putF (f g : Str) (v : V) : ∀ fs : List (Str × V), (putF f v fs).lookup g = if g = f then some v else fs.lookup g
  | [] => by
    show List.lookup g [(f, v)] = _
    by_cases h : g = f
    · have hb : (g == f) = true := beq_iff_eq.mpr h
      simp only [List.lookup, hb, if_pos h]
    · have hb : (g == f) = false := beq_eq_false_iff_ne.mpr h
      simp only [List.lookup, hb, if_neg h]
  | (k, x) :: r => by
    have ih := lookup_putF f g v r
    rw [show putF f v ((k, x) :: r) = (if k = f then (k, v) :: r else (k, x) :: putF f v r) from rfl]
    by_cases hk : k = f
    · rw [if_pos hk]
      by_cases h : g = k
      · have hb : (g == k) = true := beq_iff_eq.mpr h
        simp only [List.lookup, hb, if_pos (h.trans hk)]
      · have hb : (g == k) = false := beq_eq_false_iff_ne.mpr h
        simp only [List.lookup, hb, if_neg (fun e : g = f => h (e.trans hk.symm))]
    · rw [if_neg hk]
      by_cases h : g = k
      · have hb : (g == k) = true := beq_iff_eq.mpr h
        simp only [List.lookup, hb, if_neg (fun e : g = f => hk (h.symm.trans e))]
      · have hb : (g == k) = false := beq_eq_false_iff_ne.mpr h
        simp only [List.lookup, hb]
        exact ih
theorem keys_putF (f : Str) (v : V) : ∀ fs : List (Str × V), f ∈ (putF f v fs).map (·.1) ∧ ∀ g, g ∈ fs.map (·.1) → g ∈ (putF f v fs).map (·.1)
  | [] => ⟨by simp [putF], fun g h => by simp at h⟩
  | (k, x) :: r => by
    obtain ⟨i1, i2⟩ := keys_putF f v r
    rw [show putF f v ((k, x) :: r) = (if k = f then (k, v) :: r else (k, x) :: putF f v r) from rfl]
    by_cases hk : k = f
    · rw [if_pos hk]
      subst hk
      exact ⟨by simp, fun g h => by simpa using h⟩
    · rw [if_neg hk]
      refine ⟨?_, fun g h => ?_⟩
      · rw [List.map_cons]
        exact List.mem_cons_of_mem _ i1
      · rw [List.map_cons] at h ⊢
        rcases List.mem_cons.mp h with e | e
        · exact List.mem_cons.mpr (.inl e)
        · exact List.mem_cons_of_mem _ (i2 g e)
theorem length_putF (f : Str) (v : V) : ∀ fs : List (Str × V), (putF f v fs).length ≤ fs.length + 1
  | [] => by simp [putF]
  | (k, x) :: r => by
    have ih := length_putF f v r
    rw [show putF f v ((k, x) :: r) = (if k = f then (k, v) :: r else (k, x) :: putF f v r) from rfl]
    by_cases hk : k = f
    · rw [if_pos hk, List.length_cons, List.length_cons]; omega
    · rw [if_neg hk, List.length_cons, List.length_cons]; omega
theorem RelO.some_of {v : V} {o : Option Value} (r : RelO (some v) o) : ∃ u, o = some u ∧ RelV v u := by
  cases o with
  | none => exact (show False from r).elim
  | some u => exact ⟨u, rfl, r⟩
theorem handed_of {v : V} {u : Value} (r : RelV v u) : PySem.W.handedIn u = true := by
  cases v with
  | non => cases (show u = Value.none from r); rfl
  | bl b => cases (show u = Value.bool b from r); rfl
  | int i => obtain ⟨t, e⟩ := (show ∃ t, u = Value.int i t from r); cases e; rfl
  | str x => obtain ⟨t, e⟩ := (show ∃ t, u = Value.str x t from r); cases e; rfl
  | byt b => obtain ⟨t, e⟩ := (show ∃ t, u = Value.bytes b t from r); cases e; rfl
  | flt b => obtain ⟨t, e⟩ := (show ∃ t, u = Value.float b t from r); cases e; rfl
  | ref a => cases (show u = Value.ref a from r); rfl
  | ty n => cases (show u = Value.type n from r); rfl
section
variable {P : Program} {w : World} {H H' : Hp} {h h' : Heap} {a C dx : Addr} {fs fs' : List (Str × V)}
theorem ins_get (hok : HOk P w H h) (e : H a = some (.ins C dx fs)) : ∃ mA, ObjM h a dx C mA ∧ (∀ f, RelO (fs.lookup f) (mA f)) ∧ PySem.Within mA (fs.map (·.1)) ∧ fs.length ≤ 1000 ∧ H dx = some (.own a) := by
  obtain ⟨d, z, ne, ob, mA, n, r, q⟩ := (show ObjOk P w H h a (.ins C dx fs) from hok a _ e)
  exact ⟨mA, ⟨ob, n, ne⟩, r, q, z, d⟩
end
structure Cls (K : PySem.W.Frag) (C : Addr) : Prop where
  pg : PySem.W.plainGet K C Str.empty = true
  hd : PySem.W.hasDictIn K C = true
  po : PySem.W.plainOver K C = true
  sa : PySem.W.findIn K (.ref C) "__setattr__" = some (some (.builtin "object.__setattr__"))
theorem Cls.get {K : PySem.W.Frag} {C : Addr} (c : Cls K C) (f : Str) : PySem.W.plainGet K C f = true := c.pg
def NoAttr (K : PySem.W.Frag) (C : Addr) (f : Str) : Prop := PySem.W.findIn K (.ref C) f = some none
theorem NoAttr.taker {K : PySem.W.Frag} {C : Addr} {f : Str} (n : NoAttr K C f) : PySem.W.takerIn K C f = some none := by
  unfold PySem.W.takerIn
  rw [show PySem.W.findIn K (.ref C) f = some none from n]
  rfl
structure Con (K : PySem.W.Frag) (C : Addr) (f : Str) (v : V) (u : Value) : Prop where
  at_ : PySem.W.findIn K (.ref C) f = some (some u)
  rel : RelV v u
  get : PySem.W.specialIn K u "__get__" = some none
  cp : PySem.W.copiedNames.contains f = false
structure Meth (K : PySem.W.Frag) (C : Addr) (m : Str) (f : Addr) : Prop where
  at_ : PySem.W.findIn K (.ref C) m = some (some (.ref f))
  fn : PySem.W.isFn K (.ref f) = true
  kp : PySem.W.keepIn K (.ref f) = true
section
variable {X : Cx} {pins : List (Addr × Obj)} {σ : St} {H : Hp} {s : Shared} {a C dx : Addr} {fs : List (Str × V)} {f : Str} {v : V} {A : Around} {E : Value → Shared → Prop}
theorem getattr_ok {b : Bool} {Q : Value → Shared → Prop} (I : Inv X pins σ H s) (e : H a = some (.ins C dx fs)) (c : Cls X.K C) (n : NoAttr X.K C f) (l : fs.lookup f = some v)
    (h : ∀ u s', Inv X pins σ H s' → RelV v u → Q u s') : wpAny (model X.prog X.w) A (getAttr (.ref a) f b) Q E s := by
  obtain ⟨mA, O, r, _, _, _⟩ := ins_get I.hok e
  obtain ⟨u, hu, ru⟩ := RelO.some_of (v := v) (o := mA f) (by rw [← l]; exact r f)
  exact get_map I.kIn O (c.get f) c.hd n hu (handed_of ru) (h u _ (I.tok _) ru)
theorem setattr_ok {y : V} {u : Value} {Q : Unit → Shared → Prop} (I : Inv X pins σ H s) (e : H a = some (.ins C dx fs)) (c : Cls X.K C) (n : NoAttr X.K C f) (hl : fs.length < 1000) (ry : RelV y u)
    (h : ∀ s', Inv X pins σ (upd H a (.ins C dx (putF f y fs))) s' → Q () s') : wpAny (model X.prog X.w) A (setAttr (.ref a) f u) Q E s := by
  obtain ⟨mA, O, r, wi, _, ho⟩ := ins_get I.hok e
  have hz : (fs.map (·.1)).length ≤ sizeLine := by rw [List.length_map, sizeLine_eq]; omega
  refine set_map I.kIn O c.sa c.po n.taker c.hd wi hz fun h' O' sb => h _ ?_
  have hd : ∃ o, h'.get? dx = some o := let ⟨o, _, _, e', _⟩ := O'.ns; ⟨o, e'⟩
  refine I.write (x := a) (e := dx) (by rw [e]; exact True.intro) (.inr ho) (fun b q hb z => (sb.2 b hb).trans z) hd ?_
  refine ⟨by rw [upd_ne O.ne]; exact ho, ?_, O.ne, O'.obj, _, O'.ns, fun g => ?_, fun g hg => ?_⟩
  · have := length_putF f y fs; omega
  · show RelO ((putF f y fs).lookup g) (if g = f then some u else mA g)
    rw [lookup_putF]
    by_cases q : g = f
    · rw [if_pos q, if_pos q]; exact ry
    · rw [if_neg q, if_neg q]; exact r g
  · by_cases q : g = f
    · rw [q]; exact (keys_putF f y fs).1
    · refine (keys_putF f y fs).2 g (wi g fun z => hg ?_)
      show (if g = f then some u else mA g) = none
      rw [if_neg q]; exact z
theorem Inv.made (I : Inv X pins σ H s) : Inv X pins σ (upd (upd H s.heap.objs.size (.own (s.heap.objs.size + 1))) (s.heap.objs.size + 1) (.ins C s.heap.objs.size []))
    { s with heap := (s.heap.push PySem.W.emptyDict).push (PySem.W.instObj C s.heap.objs.size) } := by
  have e1 : (s.heap.push PySem.W.emptyDict).get? s.heap.objs.size = some PySem.W.emptyDict := Heap.get?_push_size s.heap rfl
  have e2 : ((s.heap.push PySem.W.emptyDict).push (PySem.W.instObj C s.heap.objs.size)).get? (s.heap.objs.size + 1) = some (PySem.W.instObj C s.heap.objs.size) := by
    have := Heap.get?_push_size (s.heap.push PySem.W.emptyDict) (o := PySem.W.instObj C s.heap.objs.size) rfl
    rwa [Heap.size_push] at this
  have e3 : (s.heap.push PySem.W.emptyDict).Ns s.heap.objs.size (fun _ => none) := ⟨PySem.W.emptyDict, #[], _, e1, rfl, (fun e he => absurd he (by simp)), fun _ => rfl⟩
  have I1 := I.laid (a := s.heap.objs.size) (o := .own (s.heap.objs.size + 1)) (h' := s.heap.push PySem.W.emptyDict) (t' := s.toks) (fun b u q => Heap.get?_push_of_some _ q) (Nat.le_refl _) ⟨_, e1⟩
  refine I1.laid (a := s.heap.objs.size + 1) (o := .ins C s.heap.objs.size []) (t' := s.toks) (fun b u q => Heap.get?_push_of_some _ q) (Nat.le_of_eq (Heap.size_push _ _)) ?_
  have ne : s.heap.objs.size ≠ s.heap.objs.size + 1 := Nat.ne_of_lt (Nat.lt_succ_self _)
  refine ⟨by rw [upd_ne ne, upd_same], Nat.zero_le _, ne, e2, fun _ => none, (Heap.Ns1.of_empty e3).at fun o q => Heap.get?_push_of_some _ q, fun _ => True.intro, fun y hy => absurd rfl hy⟩
theorem attr_of {prog : Program} {w : World} {env : Env} {e : Expr} {f : Str} {pos : Pos} {s : Shared} {Q : Value → Shared → Prop} (hb : attributeBase e f env (eval e env) = eval e env)
    (h : wpAny (model prog w) A (eval e env) (fun o s₁ => wpAny (model prog w) A (getAttr o f true) Q E s₁) E s) : wpAny (model prog w) A (eval (.Attribute e f pos) env) Q E s :=
  Attribute_any_ h (by rw [arm_eval_Attribute, hb])
end
def tFld (K : PySem.W.Frag) (ta : TE) (f : Str) : TE := fun σ H Q => ta σ H fun x H1 => ∃ a C dx fs v, x = .ref a ∧ H1 a = some (.ins C dx fs) ∧ Cls K C ∧ NoAttr K C f ∧ fs.lookup f = some v ∧ Q v H1
def sFld (K : PySem.W.Frag) (ta tv : TE) (f : Str) : TS := fun D σ H => tv σ H fun y H1 => ta σ H1 fun x H2 => ∃ a C dx fs, x = .ref a ∧ H2 a = some (.ins C dx fs) ∧ Cls K C ∧ NoAttr K C f ∧ fs.length < 1000 ∧
  D.nx σ (upd H2 a (.ins C dx (putF f y fs)))
section
variable {X : Cx} {o e value : Expr} {f : Str} {pos pos' tpos : Pos} {ta tv : TE}
theorem pe_fld (he : PE X e ta) (hb : attributeBase e f X.env (eval e X.env) = eval e X.env) : PE X (.Attribute e f pos) (tFld X.K ta f) := by
  intro pins s σ H Q I h
  refine attr_of hb (thn (he pins s σ H _ I h) fun u s1 ⟨x, H1, I1, rx, a, C, dx, fs, v, ex, ea, c, n, l, q⟩ => ?_)
  subst ex
  obtain rfl : u = Value.ref a := rx
  exact getattr_ok I1 ea c n l fun u' s2 I2 ru => ⟨v, H1, I2, ru, q⟩
theorem ps_fld (ha : PE X o ta) (hv : PE X value tv) (hs : swapsWith value (some (.Attribute o f pos')) pos.line X.env = pure false) : PS X (.Assign [.Attribute o f pos'] value pos) (sFld X.K ta tv f) := by
  intro pins s σ H D I h
  refine plainObj_wpAny_Assign_Attribute (thn (hv pins s σ H _ I h) fun u s1 ⟨y, H1, I1, ry, q⟩ => thn (ha pins s1 σ H1 _ I1 q) fun ov s2 ⟨x, H2, I2, rx, a, C, dx, fs, ex, ea, c, n, l, q2⟩ => ?_) hs
  subst ex
  obtain rfl : ov = Value.ref a := rx
  exact setattr_ok I2 ea c n l ry fun s3 I3 => ⟨σ, _, I3, q2⟩
end
section
variable {X : Cx} {pins : List (Addr × Obj)} {σ : St} {H : Hp} {s : Shared} {A : Around} {E : Value → Shared → Prop} {Q : Value → Shared → Prop} {c : Value} {b : Bool}
inductive TyOf (K : PySem.W.Frag) (H : Hp) : V → Value → Prop where
  | non : TyOf K H .non (.type "NoneType")
  | bl (x : Bool) : TyOf K H (.bl x) (.type "bool")
  | int (i : Int) : TyOf K H (.int i) (.type "int")
  | str (x : Str) : TyOf K H (.str x) (.type "str")
  | flt (x : UInt64) : TyOf K H (.flt x) (.type "float")
  | lst {a : Addr} {xs : List V} (e : H a = some (.lst xs)) : TyOf K H (.ref a) (.type "list")
  | frz {a : Addr} {o : Obj} {xs : List V} (e : H a = some (.frz o (.lst xs))) : TyOf K H (.ref a) (.type "list")
  | tup {a : Addr} {xs : List V} (e : H a = some (.tup xs)) : TyOf K H (.ref a) (.type "tuple")
  | dK {a : Addr} {kvs : List (Key × V)} (e : H a = some (.dK kvs)) : TyOf K H (.ref a) (.type "dict")
  | dT {a : Addr} {kvs : List (List Key × V)} (e : H a = some (.dT kvs)) : TyOf K H (.ref a) (.type "dict")
  | ins {a C dx : Addr} {fs : List (Str × V)} (e : H a = some (.ins C dx fs)) (cl : Cls K C) (ha : PySem.W.findIn K (.ref C) "__class__" = some (some (.builtin "object.__class__")))
      (hn : PySem.W.specialIn K (.builtin "object.__class__") "__get__" = some (some (.builtin "getset_descriptor.__get__"))) (htk : PySem.W.takesIn K (.builtin "object.__class__") = some true)
      (hm : PySem.W.mroIn K C (.type "object") = some true) : TyOf K H (.ref a) (.ref C)
theorem isinst_ok {x : V} {u t : Value} (I : Inv X pins σ H s) (rx : RelV x u) (ty : TyOf X.K H x t) (e : PySem.W.kitOne X.K t c = some b) (h : ∀ tk, Q (.bool b) { s with toks := tk }) :
    wpAny (model X.prog X.w) A (call (.builtin "isinstance") [u, c]) Q E s := by
  cases ty with
  | non => cases (show u = Value.none from rx); exact PySem.W.kia_one PySem.W.kitx_none I.kIn True.intro e (fun z => nomatch z) h
  | bl y => cases (show u = Value.bool y from rx); exact PySem.W.kia_one PySem.W.kitx_bool I.kIn True.intro e (fun z => nomatch z) h
  | int i => obtain ⟨t, q⟩ := (show ∃ t, u = Value.int i t from rx); cases q; exact PySem.W.kia_one PySem.W.kitx_int I.kIn True.intro e (fun z => nomatch z) h
  | str y => obtain ⟨t, q⟩ := (show ∃ t, u = Value.str y t from rx); cases q; exact PySem.W.kia_one PySem.W.kitx_str I.kIn True.intro e (fun z => nomatch z) h
  | flt y => obtain ⟨t, q⟩ := (show ∃ t, u = Value.float y t from rx); cases q; exact PySem.W.kia_one PySem.W.kitx_float I.kIn True.intro e (fun z => nomatch z) h
  | @lst a xs ea =>
    cases (show u = Value.ref a from rx)
    obtain ⟨_, _, n, _, h1⟩ := (show ObjOk X.prog X.w H s.heap a (.lst xs) from I.hok a _ ea)
    exact PySem.W.kia_one PySem.W.kitx_list I.kIn ⟨_, h1, rfl⟩ e (fun z => nomatch z) h
  | @frz a ob xs ea =>
    cases (show u = Value.ref a from rx)
    obtain ⟨_, _, _, n, _, h1⟩ := (show ObjOk X.prog X.w H s.heap a (.frz ob (.lst xs)) from I.hok a _ ea)
    exact PySem.W.kia_one PySem.W.kitx_list I.kIn ⟨_, h1, rfl⟩ e (fun z => nomatch z) h
  | @tup a xs ea =>
    cases (show u = Value.ref a from rx)
    obtain ⟨_, _, _, p⟩ := (show ObjOk X.prog X.w H s.heap a (.tup xs) from I.hok a _ ea)
    obtain ⟨o, h1, h2, _⟩ := p
    exact PySem.W.kia_one PySem.W.kitx_tuple I.kIn ⟨o, h1, h2⟩ e (fun z => nomatch z) h
  | @dK a kvs ea =>
    cases (show u = Value.ref a from rx)
    obtain ⟨_, _, vs, _, p⟩ := (show ObjOk X.prog X.w H s.heap a (.dK kvs) from I.hok a _ ea)
    obtain ⟨o, es, ep, h1, h2, _⟩ := p
    exact PySem.W.kia_one PySem.W.kitx_dict I.kIn ⟨o, h1, h2.1⟩ e (fun z => nomatch z) h
  | @dT a kvs ea =>
    cases (show u = Value.ref a from rx)
    obtain ⟨_, _, xs, _, o, es, ep, h1, h2, _⟩ := (show ObjOk X.prog X.w H s.heap a (.dT kvs) from I.hok a _ ea)
    exact PySem.W.kia_one PySem.W.kitx_dict I.kIn ⟨o, h1, h2.1⟩ e (fun z => nomatch z) h
  | @ins a C dx fs ea cl ha hn htk hm =>
    cases (show u = Value.ref a from rx)
    obtain ⟨mA, O, _⟩ := ins_get I.hok ea
    obtain ⟨od, J, _⟩ := O.look
    exact PySem.W.kia_one (PySem.W.kitx_own (cl.get _) cl.hd ha hn htk hm) I.kIn J e (fun z => nomatch z) h
end
end L2
namespace L2
open PySem PySem.Spec PyProof.Rows
structure Room (k : Nat) (A : Around) : Prop where
  hd : A.handled = none
  dp : A.depth + 3 * k + 5 < recursionLimit
  un : A.units + 16 * k + 200 < cLine
  gd : A.guards = some []
theorem Room.mono {j k : Nat} {A : Around} (r : Room k A) (h : j ≤ k) : Room j A := ⟨r.hd, by have := r.dp; omega, by have := r.un; omega, r.gd⟩
theorem Room.deeper {k : Nat} {A : Around} (r : Room (k + 1) A) (env : Env) : Room k (A.deeper env) :=
  ⟨r.hd, by have := r.dp; show A.depth + 1 + 3 * k + 5 < _; omega, by have := r.un; show A.units + 3 + 16 * k + 200 < _; omega, r.gd⟩
theorem make_depth {A : Around} {C : Addr} {us : List Value} {kw : List (Str × Value)} : (A.under (.builtin "type.__call__" ⟨.ref C :: us, kw⟩)).depth = A.depth + 1 := by
  first | rfl | simp [Around.under, Code.weight, Code.isCreation, Code.isGuard, Code.isCaller, Code.frames, Code.isFrame, guardIds]
theorem make_units {A : Around} {C : Addr} {us : List Value} {kw : List (Str × Value)} : (A.under (.builtin "type.__call__" ⟨.ref C :: us, kw⟩)).units = A.units + 1 := by
  first | rfl | simp [Around.under, Code.cUnits, Code.frames, Code.isFrame]
theorem make_guards {A : Around} {C : Addr} {us : List Value} {kw : List (Str × Value)} : (A.under (.builtin "type.__call__" ⟨.ref C :: us, kw⟩)).guards = A.guards := by
  first | rfl | simp [Around.under, Code.isGuard, guardIds]
theorem Room.make {k : Nat} {A : Around} (r : Room (k + 1) A) (C : Addr) (us : List Value) (kw : List (Str × Value)) : Room k (A.under (.builtin "type.__call__" ⟨.ref C :: us, kw⟩)) :=
  ⟨r.hd, by have := r.dp; rw [make_depth]; omega, by have := r.un; rw [make_units]; omega, by rw [make_guards]; exact r.gd⟩
theorem Room.depth {k : Nat} {A : Around} (r : Room k A) : A.depth < recursionLimit := by have := r.dp; omega
def tNil : TA := fun _ H Q => Q [] H
def tCons (ta : TE) (tr : TA) : TA := fun σ H Q => ta σ H fun x H1 => tr σ H1 fun xs H2 => Q (x :: xs) H2
section
variable {X : Cx} {e : Expr} {es : List Expr} {te : TE} {t : TA} {pos : Pos}
theorem pa_nil : PA X [] tNil := fun _ _ _ _ H Q I h => Calls.spliced_nil ⟨[], H, I, .nil, h⟩
theorem pa_cons (ha : PE X e te) (hr : PA X es t) (hs : starEach (e :: es) X.env = (false, eval e X.env) :: starEach es X.env := by rfl) : PA X (e :: es) (tCons te t) := by
  intro pos pins s σ H Q I h
  rw [hs]
  show wpAny _ _ (spliced ((false, eval e X.env) :: backTo pos (starEach es X.env))) _ _ s
  refine Calls.spliced_cons (thn (ha pins s σ H _ I h) fun u s1 ⟨x, H1, I1, r1, q1⟩ => ?_)
  exact thn (hr pos pins s1 σ H1 _ I1 q1) fun us s2 ⟨xs, H2, I2, r2, q2⟩ => ⟨x :: xs, H2, I2, .cons r1 r2, q2⟩
def tTup (t : TA) : TE := fun σ H Q => t σ H fun xs H1 => xs.length ≤ sizeLine ∧ ∀ p, H1 p = none → Q (.ref p) (upd H1 p (.tup xs))
def tLst (t : TA) : TE := fun σ H Q => t σ H fun xs H1 => xs.length ≤ sizeLine ∧ ∀ p, H1 p = none → Q (.ref p) (upd H1 p (.lst xs))
theorem pe_tup {x1} (h : PA X es t) : PE X (.Tuple es x1 pos) (tTup t) := by
  intro pins s σ H Q I hq
  refine wpAny_Tuple_spliced (thn (h pos pins s σ H _ I hq) fun us s1 ⟨xs, H1, I1, r, z, q⟩ => ⟨by rw [← r.length]; exact z, ?_⟩)
  have hf : H1 s1.heap.objs.size = none := I1.hok.fresh (Nat.le_refl _)
  refine ⟨.ref s1.heap.objs.size, upd H1 s1.heap.objs.size (.tup xs), I1.laid (t' := s1.toks) (fun b u e => Heap.get?_push_of_some _ e) (Nat.le_refl _) ?_, rfl, q _ hf⟩
  exact ⟨z, us, r, ⟨_, Heap.get?_push_size _ rfl, rfl, _, rfl⟩⟩
theorem pe_lst (h : PA X es t) : PE X (.List es pos) (tLst t) := by
  intro pins s σ H Q I hq
  refine wpAny_List_spliced (thn (h pos pins s σ H _ I hq) fun us s1 ⟨xs, H1, I1, r, z, q⟩ => ⟨by rw [← r.length]; exact z, ?_⟩)
  have hf : H1 s1.heap.objs.size = none := I1.hok.fresh (Nat.le_refl _)
  refine ⟨.ref s1.heap.objs.size, upd H1 s1.heap.objs.size (.lst xs), I1.laid (t' := s1.toks) (fun b u e => Heap.get?_push_of_some _ e) (Nat.le_refl _) ?_, rfl, q _ hf⟩
  exact ⟨z, us, 0, r, Heap.get?_push_size _ rfl⟩
end
abbrev Sp := List V → Hp → VK → XK → Prop
abbrev CXT := List Env → Hp → Shared → XK → Value → Shared → Prop
structure Env0 (P : Program) (w : World) (K : PySem.W.Frag) (mg : Str → Option Value) (base : Heap) (A : Around) (outer : List Env) (s : Shared) (H : Hp) : Prop where
  frames : A.frames = some outer
  mod : Mod K mg base
  bs : ∀ b o, base.get? b = some o → s.heap.get? b = some o ∧ H b = none
  bsz : base.objs.size ≤ s.heap.objs.size
  funs : s.heap.FunFrames base outer
  frf : ∀ b ∈ frs outer, H b = none
  hok : HOk P w H s.heap
  bare : AllBare s.gens
def CE (outer : List Env) (P : Program) (w : World) (H : Hp) (s : Shared) (Q : VK) (u : Value) (s' : Shared) : Prop :=
  ∃ v H', s'.os = s.os ∧ AllBare s'.gens ∧ Un (frs outer) [] H H' s.heap s'.heap ∧ HOk P w H' s'.heap ∧ RelV v u ∧ Q v H'
def CR (CX : CXT) (outer : List Env) (P : Program) (w : World) (H : Hp) (s : Shared) (Q : VK) (E : XK) (r : Result) (s' : Shared) : Prop :=
  match r with
  | .ok (.ret u) => CE outer P w H s Q u s'
  | .ok _ => False
  | .error e => CX outer H s E e s'
structure FnOk (P : Program) (w : World) (K : PySem.W.Frag) (mg : Str → Option Value) (base : Heap) (CX : CXT) (k : Nat) (f : Addr) (fd : FuncData) (ps : List Str) (sp : Sp) : Prop where
  len : ∀ vs H Q E, sp vs H Q E → vs.length = ps.length
  run : ∀ (A : Around) (outer : List Env) (s : Shared) (H : Hp) (args : Args) (us : List Value) (vs : List V) (Q : VK) (E : XK), Room k A → Env0 P w K mg base A outer s H → BindsTo s fd args (ps.zip us) → Vals vs us → sp vs H Q E →
    codeAny (model P w) A (.call (.ref f) args) (CR CX outer P w H s Q E) s
theorem Env0.make {P : Program} {w : World} {K : PySem.W.Frag} {mg : Str → Option Value} {base : Heap} {A : Around} {outer : List Env} {s : Shared} {H : Hp} (e : Env0 P w K mg base A outer s H) (C : Addr) (us : List Value) (kw : List (Str × Value)) :
    Env0 P w K mg base (A.under (.builtin "type.__call__" ⟨.ref C :: us, kw⟩)) outer s H := ⟨by first | exact e.frames | (simpa [Around.under, Code.envs, Code.isFrame, pushEnvs] using e.frames), e.mod, e.bs, e.bsz, e.funs, e.frf, e.hok, e.bare⟩
section
variable {X : Cx} {pins : List (Addr × Obj)} {σ : St} {H : Hp} {s s' : Shared}
theorem Inv.env0 (I : Inv X pins σ H s) : Env0 X.prog X.w X.K X.mg X.base X.A X.stack s H :=
  ⟨I.ok.frames, I.ok.mod, I.bs, Nat.le_trans I.ok.bsz I.sz, I.stack, I.stkFree, I.hok, I.bare⟩
theorem Inv.after {Q : VK} {u : Value} (I : Inv X pins σ H s) (h : CE X.stack X.prog X.w H s Q u s') : EP X pins σ Q u s' := by
  obtain ⟨v, H', os, bare, un, hok, r, q⟩ := h
  obtain ⟨hh, g, d, t, os'⟩ := s'
  obtain rfl : os' = s.os := os
  exact ⟨v, H', I.call (h' := hh) (g' := g) (d' := d) (t' := t) (ch := []) un hok bare (fun b z => absurd z (by simp)), r, q⟩
end
def tCall (sp : Sp) (dvs : List V) (E : XK) (t : TA) : TE := fun σ H Q => t σ H fun vs H1 => sp (vs ++ dvs) H1 Q E
def tMake (C : Addr) (sp : Sp) (dvs : List V) (E : XK) (t : TA) : TE := fun σ H Q => t σ H fun vs H1 => ∀ x dx, H1 x = none → H1 dx = none → dx ≠ x →
  sp (.ref x :: (vs ++ dvs)) (upd (upd H1 dx (.own x)) x (.ins C dx [])) (fun v H2 => v = .non ∧ Q (.ref x) H2) E
def Binds (K : PySem.W.Frag) (fd : FuncData) (ps : List Str) (ds : List Value) : Prop :=
  ∀ (s : Shared) (us : List Value), K.In s.heap → (us ++ ds).length = ps.length → BindsTo s fd ⟨us, []⟩ (ps.zip (us ++ ds))
theorem Binds.all {K : PySem.W.Frag} {fd : FuncData} {ps : List Str} (h : ∀ us : List Value, us.length = ps.length → bindArgs fd ⟨us, []⟩ = pure (ps.zip us)) : Binds K fd ps [] := fun s us _ hl => by
  rw [List.append_nil] at hl ⊢
  exact .of_eq (h us hl)
def Passes (CX : CXT) (X : Cx) (E : XK) : Prop := ∀ (pins : List (Addr × Obj)) (σ : St) (H : Hp) (s : Shared) (e : Value) (s' : Shared), Inv X pins σ H s → CX X.stack H s E e s' → X.xe e s'
section
variable {X : Cx} {CX : CXT} {k : Nat} {f C : Addr} {fd : FuncData} {ps : List Str} {sp : Sp} {dvs : List V} {ds : List Value} {E : XK} {x m : Str} {p pos apos : Pos} {e o : Expr} {es : List Expr} {ta : TE} {t : TA}
theorem run_fn {pins : List (Addr × Obj)} {σ : St} {H : Hp} {s : Shared} {Q : VK} {us : List Value} {vs : List V} (F : FnOk X.prog X.w X.K X.mg X.base CX k f fd ps sp) (hr : Room k X.A) (hb : Binds X.K fd ps ds) (hd : Vals dvs ds) (hx : Passes CX X E)
    (I : Inv X pins σ H s) (r : Vals vs us) (h : sp (vs ++ dvs) H Q E) : wpAny (model X.prog X.w) X.A (call (.ref f) us) (EP X pins σ Q) X.xe s := by
  have r2 : Vals (vs ++ dvs) (us ++ ds) := r.append hd
  have hl : (us ++ ds).length = ps.length := by rw [← r2.length]; exact F.len _ _ _ _ h
  refine wpAny_call (codeAny_mono (F.run X.A X.stack s H ⟨us, []⟩ (us ++ ds) (vs ++ dvs) Q E hr I.env0 (hb s us I.kIn hl) r2 h) fun r s' hq => ?_)
  cases r with
  | error e => exact hx pins σ H s e s' I hq
  | ok fl =>
    cases fl with
    | ret u => exact I.after hq
    | next => exact False.elim hq
    | brk => exact False.elim hq
    | cont => exact False.elim hq
theorem pe_call (F : FnOk X.prog X.w X.K X.mg X.base CX k f fd ps sp) (hr : Room k X.A) (hg : Gl X x) (hm : X.mg x = some (.ref f)) (hk : PySem.W.keepIn X.K (.ref f) = true) (hb : Binds X.K fd ps ds) (hd : Vals dvs ds) (hx : Passes CX X E)
    (ha : PA X (e :: es) t) (hdb : (x == ("__debug__" : Str)) = false := by decide) (he : starEach (e :: es) X.env = (false, eval e X.env) :: starEach es X.env := by rfl) (hpl : (backTo pos (starEach es X.env)).any (·.1) = false := by rfl) :
    PE X (.Call (.Name x p) (e :: es) [] pos) (tCall sp dvs E t) := by
  intro pins s σ H Q I h
  refine wpAny_Call_Name_kw (ld_glob I hg hm ?_ hdb)
  refine PySem.W.callWith_K (h₀ := X.base) I.ok.mod.kin hk (thn (ha pos pins s σ H _ I h) fun us s1 ⟨vs, H1, I1, r, q⟩ => ⟨I1.kIn, ?_⟩) he hpl
  exact run_fn F hr hb hd hx I1 r q
structure Mk (K : PySem.W.Frag) (C f : Addr) : Prop where
  makes : PySem.W.makesIn K C = true
  init : PySem.W.findIn K (.ref C) "__init__" = some (some (.ref f))
  fn : PySem.W.isFn K (.ref f) = true
  kp : PySem.W.keepIn K (.ref C) = true
theorem run_make {pins : List (Addr × Obj)} {σ : St} {H : Hp} {s : Shared} {Q : VK} {us : List Value} {vs : List V} (M : Mk X.K C f) (F : FnOk X.prog X.w X.K X.mg X.base CX k f fd ps sp) (hr : Room (k + 1) X.A) (hb : Binds X.K fd ps ds) (hd : Vals dvs ds)
    (hx : ∀ (pins : List (Addr × Obj)) (H : Hp) (s : Shared) (e : Value) (s' : Shared), Inv X pins σ H s → CX X.stack H s E e s' → X.xe e s') (I : Inv X pins σ H s) (r : Vals vs us)
    (h : ∀ x dx, H x = none → H dx = none → dx ≠ x → sp (.ref x :: (vs ++ dvs)) (upd (upd H dx (.own x)) x (.ins C dx [])) (fun v H2 => v = .non ∧ Q (.ref x) H2) E) :
    wpAny (model X.prog X.w) X.A (call (.ref C) us) (EP X pins σ Q) X.xe s := by
  have hq := h (s.heap.objs.size + 1) s.heap.objs.size (I.hok.fresh (Nat.le_succ _)) (I.hok.fresh (Nat.le_refl _)) (Nat.ne_of_lt (Nat.lt_succ_self _))
  have I2 := Inv.made (C := C) I
  have r2 : Vals (V.ref (s.heap.objs.size + 1) :: (vs ++ dvs)) (Value.ref (s.heap.objs.size + 1) :: (us ++ ds)) := .cons rfl (r.append hd)
  have hl : (Value.ref (s.heap.objs.size + 1) :: us ++ ds).length = ps.length := by
    have e := r2.length
    rw [F.len _ _ _ _ hq] at e
    exact e.symm
  refine wpAny_call (make_map (f := f) I.kIn M.makes M.init (beq_iff_eq.mp M.fn) (codeAny_mono (F.run _ X.stack _ _ ⟨Value.ref (s.heap.objs.size + 1) :: us, []⟩ (Value.ref (s.heap.objs.size + 1) :: (us ++ ds)) _ _ E (hr.make C us [])
    (I2.env0.make C us []) (hb _ (Value.ref (s.heap.objs.size + 1) :: us) I2.kIn hl) r2 hq) fun r s' hq' => ?_))
  cases r with
  | error e => exact hx pins _ _ e s' I2 hq'
  | ok fl =>
    cases fl with
    | ret u =>
      obtain ⟨v, H', I3, rv, ev, q3⟩ := I2.after hq'
      subst ev
      exact ⟨rv, ⟨V.ref (s.heap.objs.size + 1), H', I3, rfl, q3⟩⟩
    | next => exact False.elim hq'
    | brk => exact False.elim hq'
    | cont => exact False.elim hq'
end
section
variable {X : Cx} {CX : CXT} {k : Nat} {f C : Addr} {fd : FuncData} {ps ks : List Str} {sp : Sp} {E : XK} {x m : Str} {p pos apos kpos : Pos} {e o : Expr} {es : List Expr} {kws : List Keyword} {te ta : TE} {t tk : TA} {nm : Option Str}
structure KBinds (K : PySem.W.Frag) (fd : FuncData) (ps ks : List Str) (g : List Value → List Value → List Value) (gV : List V → List V → List V) : Prop where
  to : ∀ (s : Shared) (us ws : List Value), K.In s.heap → (g us ws).length = ps.length → BindsTo s fd ⟨us, ks.zip ws⟩ (ps.zip (g us ws))
  rel : ∀ {vs : List V} {us : List Value} {zs : List V} {ws : List Value}, Vals vs us → Vals zs ws → Vals (gV vs zs) (g us ws)
variable {g : List Value → List Value → List Value} {gV : List V → List V → List V}
end
structure FnScope (N P : List Str) (sc : Scope) : Prop where
  kind : sc.kind = .function
  co : sc.isCoroutine = false
  gen : sc.isGenerator = false
  nd : N.Nodup
  pre : N.take P.length = P
  par : ∀ x ∈ P, sc.names.lookup x = some .local ∨ sc.names.lookup x = some .cell
  nofree : ∀ y ∈ sc.names, y.2 ≠ .free
theorem bindL_out {kindOf : Str → Option NameKind} {x : Str} : ∀ {binds : List (Str × Value)} {m : Str → Option Value}, (∀ v, (x, v) ∉ binds) → bindL kindOf binds m x = m x
  | [], _, _ => rfl
  | (n, v) :: r, m, h => by
    unfold bindL
    rw [bindL_out fun w hw => h w (List.mem_cons_of_mem _ hw)]
    split
    · have : x ≠ n := by rintro rfl; exact h v List.mem_cons_self
      simp [this]
    · rfl
theorem bindC_out {kindOf : Str → Option NameKind} {x : Str} : ∀ {binds : List (Str × Value)} {m : Str → Option Value}, (∀ v, (x, v) ∉ binds) → bindC kindOf binds m x = m x
  | [], _, _ => rfl
  | (n, v) :: r, m, h => by
    unfold bindC
    rw [bindC_out fun w hw => h w (List.mem_cons_of_mem _ hw)]
    split
    · rfl
    · have : x ≠ n := by rintro rfl; exact h v List.mem_cons_self
      simp [this]
theorem bindL_get {kindOf : Str → Option NameKind} {x : Str} {v : Value} : ∀ {P : List Str} {vs : List Value} {i : Nat} {m : Str → Option Value}, P.Nodup → P[i]? = some x → vs[i]? = some v → kindOf x = some .local →
    bindL kindOf (P.zip vs) m x = some v
  | [], _, _, _, _, h, _, _ => by simp at h
  | _ :: _, [], _, _, _, _, h, _ => by simp at h
  | p :: P, w :: vs, 0, m, nd, h1, h2, hk => by
    simp at h1 h2; subst h1; subst h2
    show bindL kindOf ((p, w) :: P.zip vs) m p = _
    unfold bindL
    rw [bindL_out fun v hv => (List.nodup_cons.mp nd).1 (List.of_mem_zip hv).1, if_pos hk]
    simp
  | p :: P, w :: vs, i + 1, m, nd, h1, h2, hk => by
    show bindL kindOf ((p, w) :: P.zip vs) m x = _
    unfold bindL
    exact bindL_get (i := i) (List.nodup_cons.mp nd).2 (by simpa using h1) (by simpa using h2) hk
theorem bindC_get {kindOf : Str → Option NameKind} {x : Str} {v : Value} : ∀ {P : List Str} {vs : List Value} {i : Nat} {m : Str → Option Value}, P.Nodup → P[i]? = some x → vs[i]? = some v → kindOf x ≠ some .local →
    bindC kindOf (P.zip vs) m x = some v
  | [], _, _, _, _, h, _, _ => by simp at h
  | _ :: _, [], _, _, _, _, h, _ => by simp at h
  | p :: P, w :: vs, 0, m, nd, h1, h2, hk => by
    simp at h1 h2; subst h1; subst h2
    show bindC kindOf ((p, w) :: P.zip vs) m p = _
    unfold bindC
    rw [bindC_out fun v hv => (List.nodup_cons.mp nd).1 (List.of_mem_zip hv).1, if_neg hk]
    simp
  | p :: P, w :: vs, i + 1, m, nd, h1, h2, hk => by
    show bindC kindOf ((p, w) :: P.zip vs) m x = _
    unfold bindC
    exact bindC_get (i := i) (List.nodup_cons.mp nd).2 (by simpa using h1) (by simpa using h2) hk
def start (N : List Str) (vs : List V) : St := vs.map some ++ List.replicate (N.length - vs.length) none
def cxOf (CX : CXT) (P : Program) (w : World) (K : PySem.W.Frag) (mg : Str → Option Value) (base : Heap) (N : List Str) (qual : Str) (scope : Scope) (f : Addr) (cd : Value) (A : Around) (outer : List Env) (s : Shared) (H : Hp) (E : XK) : Cx where
  prog := P
  w := w
  K := K
  mg := mg
  base := base
  A := A.deeper (envOfC qual scope s.heap.objs.size f cd)
  N := N
  s₀ := s
  H₀ := H
  env := envOfC qual scope s.heap.objs.size f cd
  outer := outer
  stack := envOfC qual scope s.heap.objs.size f cd :: outer
  ex := []
  calm := true
  fn := fun _ => true
  pn := []
  xe := fun e s' => wpAny (model P w) (A.deeper (envOfC qual scope s.heap.objs.size f cd)) (leaving (envOfC qual scope s.heap.objs.size f cd) e) (fun _ s'' => CX outer H s E e s'') (fun e' s'' => CX outer H s E e' s'') s'
theorem cell_has {sc : Scope} {n : Nat} {x : Str} (h : sc.names.lookup x = some .cell) : ∃ c, (cellsFrom n sc.names []).lookup x = some c := by
  have q := PySem.W.cellsFrom_some sc.names n [] (.inl h)
  exact Option.isSome_iff_exists.mp q
theorem inv_start {CX : CXT} {P : Program} {w : World} {K : PySem.W.Frag} {mg : Str → Option Value} {base : Heap} {N ps : List Str} {qual : Str} {scope : Scope} {f : Addr} {cd : Value} {A : Around} {outer : List Env} {s s1 : Shared} {H : Hp} {E : XK} {us : List Value} {vs : List V}
    (S : FnScope N ps scope) (hd : A.handled = none) (e0 : Env0 P w K mg base A outer s H) (hl : vs.length = ps.length) (r : Vals vs us)
    (x : InCallC s s.heap.objs.size (bindL (envOfC qual scope s.heap.objs.size f cd).kindOf (ps.zip us) fun _ => none) (cellsFrom (s.heap.objs.size + 1) scope.names []) (bindC (envOfC qual scope s.heap.objs.size f cd).kindOf (ps.zip us) fun _ => none) s1) :
    Inv (cxOf CX P w K mg base N qual scope f cd A outer s H E) [] (start N vs) H s1 := by
  have hpl : ps.length ≤ N.length := by have := congrArg List.length S.pre; rw [List.length_take] at this; omega
  obtain ⟨h1, tk, rfl, hk⟩ := x.done
  have noA : ∀ b : Addr, b ∉ (cxOf CX P w K mg base N qual scope f cd A outer s H E).ex := fun b z => absurd (show b ∈ ([] : List Addr) from z) (by simp)
  refine ⟨⟨e0.mod, S.kind, rfl, rfl, Nat.le_refl _, fun y z c h1 h2 => ?_, fun y hy => ?_, fun y c _ h => ?_, fun _ => hd, Around.frames_deeper e0.frames, .inr ⟨rfl, rfl⟩, fun b z => absurd z (noA b), e0.bs, e0.bsz, fun b _ _ => noA b, fun b z => absurd z (noA b), e0.funs, e0.frf⟩,
    rfl, e0.bare, Un.kept hk, ⟨_, x.toInCall.ns, fun i y v h1 h2 h3 => ?_⟩, fun y c h => ⟨_, x.cell y c h⟩, e0.hok.fresh (Nat.le_refl _), fun y c h => ?_, fun p hp => absurd (show p ∈ ([] : List (Addr × Obj)) from hp) (by simp), e0.hok.kept hk, ?_⟩
  · exact name_of_addr x.apart (PySem.mem_of_lookup h1) (PySem.mem_of_lookup h2)
  · have hy : scope.names.lookup y = some .cell ∨ scope.names.lookup y = some .free := hy
    rcases hy with hy | hy
    · exact cell_has hy
    · exact absurd rfl (S.nofree _ (PySem.mem_of_lookup hy))
  · exact Nat.le_of_lt (x.above y c (PySem.mem_of_lookup h))
  · have hi : i < vs.length := by
      unfold start at h2
      by_cases hi : i < vs.length
      · exact hi
      · rw [List.getElem?_append_right (by simpa using hi)] at h2
        rw [List.getElem?_replicate] at h2
        split at h2 <;> cases h2
    have ha : vs[i]? = some v := by
      unfold start at h2
      rw [List.getElem?_append_left (by simpa using hi), List.getElem?_map] at h2
      cases e : vs[i]? with
      | none => rw [e] at h2; cases h2
      | some a => rw [e] at h2; cases h2; rfl
    obtain ⟨u, hu, rv⟩ := r.get ha
    have hp : ps[i]? = some y := by
      rw [← S.pre, List.getElem?_take_of_lt (by omega)]; exact h1
    have ndP : ps.Nodup := by rw [← S.pre]; exact S.nd.sublist (List.take_sublist _ _)
    refine ⟨u, rv, ?_⟩
    rcases S.par y (List.mem_of_getElem? hp) with k | k
    · exact .inl ⟨k, bindL_get ndP hp hu k⟩
    · obtain ⟨c, e⟩ := cell_has (n := s.heap.objs.size + 1) k
      refine .inr ⟨.inl k, c, e, ?_⟩
      have q := x.cell y c e
      rw [bindC_get ndP hp hu (by show scope.names.lookup y ≠ _; rw [k]; decide)] at q
      exact q
  · exact e0.hok.fresh (Nat.le_of_lt (x.above y c (PySem.mem_of_lookup h)))
  · unfold start
    show _ = N.length
    rw [List.length_append, List.length_map, List.length_replicate]
    omega
theorem fn_of {CX : CXT} {P : Program} {w : World} {K : PySem.W.Frag} {mg : Str → Option Value} {base : Heap} {k : Nat} {f : Addr} {name qual : Str} {params : Arguments} {body : List Stmt} {scope : Scope} {dV kV doc pm cdv ct oc : Value} {an od : Option Addr}
    {osl : Array (Option Value)} {N ps : List Str} {sp : Sp} (lk : K.lookup f = some ⟨oc, od, .func (PySem.W.fnOf name qual params body scope dV kV doc pm an cdv ct), osl⟩) (hcd : PySem.W.codeIn K cdv qual = true) (S : FnScope N ps scope)
    (len : ∀ vs H Q E, sp vs H Q E → vs.length = ps.length)
    (hbody : ∀ (A : Around) (outer : List Env) (s : Shared) (H : Hp) (vs : List V) (Q : VK) (E : XK), Room k (A.deeper (envOfC qual scope s.heap.objs.size f cdv)) → sp vs H Q E →
      ∃ t, PSs (cxOf CX P w K mg base N qual scope f cdv A outer s H E) body t ∧ t { nx := fun _ H' => Q .non H', rt := Q } (start N vs) H) :
    FnOk P w K mg base CX (k + 1) f (PySem.W.fnOf name qual params body scope dV kV doc pm an cdv ct) ps sp := by
  refine ⟨len, fun A outer s H args us vs Q E hr e0 hb r hsp => ?_⟩
  have hl := len _ _ _ _ hsp
  have KX : K.In s.heap := e0.mod.kin.keeps fun b o e => (e0.bs b o e).1
  have lim : s.heap.NoLimit := e0.mod.nolimit.keeps fun b o e => (e0.bs b o e).1
  have hkind : ∀ y ∈ ps.zip us, scope.names.lookup y.1 = some .local ∨ (scope.names.lookup y.1 = some .cell ∧ ((cellsFrom (s.heap.objs.size + 1) scope.names []).lookup y.1).isSome = true) := fun ⟨n, v⟩ hy => by
    rcases S.par n (List.of_mem_zip hy).1 with q | q
    · exact .inl q
    · exact .inr ⟨q, PySem.W.cellsFrom_some _ _ _ (.inl q)⟩
  refine codeAny_call_function hr.depth (KX _ _ lk) rfl S.co S.gen rfl (PySem.W.codeRec_of KX hcd) (hb _ _ _ _ ?_)
  refine wpAny_newFunctionEnv_cells S.kind hkind fun env he s1 x => ?_
  subst he
  refine ⟨lim.keeps x.toInCall.keep, codeAny_func ?_⟩
  obtain ⟨t, ht, hq⟩ := hbody A outer s H vs Q E (hr.deeper _) hsp
  have I : Inv (cxOf CX P w K mg base N qual scope f cdv A outer s H E) [] (start N vs) H s1 := inv_start S hr.hd e0 hl r x
  refine wpAny_mono (ht [] s1 (start N vs) H _ I hq) (fun fl s' hs => ?_) fun e s' hs => hs
  have fin : ∀ {σ' : St} {H' : Hp} {v : V} {u : Value}, Inv (cxOf CX P w K mg base N qual scope f cdv A outer s H E) [] σ' H' s' → RelV v u → Q v H' → CE outer P w H s Q u s' :=
    fun {σ' H' v u} J rv q => ⟨v, H', J.os, J.bare, J.base, J.hok, rv, q⟩
  cases fl with
  | ret u =>
    obtain ⟨v, σ', H', J, rv, q⟩ := hs
    exact fin J rv q
  | next =>
    obtain ⟨σ', H', J, q⟩ := hs
    exact fin (v := V.non) (u := Value.none) J rfl q
  | brk =>
    obtain ⟨_, _, _, q⟩ := hs
    exact False.elim q
  | cont =>
    obtain ⟨_, _, _, q⟩ := hs
    exact False.elim q
end L2
namespace L2
open PySem PySem.Spec PyProof.Rows
section
variable {X : Cx} {x : Str} {p pos : Pos} {e : Expr} {es : List Expr} {t : TA} {id T : String} {r : List V → Hp → VK → Prop}
def tCB (r : List V → Hp → VK → Prop) (t : TA) : TE := fun σ H Q => t σ H fun vs H1 => r vs H1 Q
theorem pe_callB (hc : CallR X (.builtin id) r) (hg : Gl X x) (hm : X.mg x = none) (hv : bootBuiltins x = some (.builtin id)) (ha : PA X (e :: es) t) (hn : x ≠ "__name__" := by decide) (hdb : (x == ("__debug__" : Str)) = false := by decide)
    (he : starEach (e :: es) X.env = (false, eval e X.env) :: starEach es X.env := by rfl) (hpl : (backTo pos (starEach es X.env)).any (·.1) = false := by rfl) : PE X (.Call (.Name x p) (e :: es) [] pos) (tCB r t) := by
  intro pins s σ H Q I h
  refine wpAny_Call_Name_kw (ld_blt I hg hm hv ?_ hn hdb)
  exact PyProof.Rows.callWith_builtin1 (thn (ha pos pins s σ H _ I h) fun us s1 ⟨vs, H1, I1, r1, q1⟩ => hc pins s1 σ H1 vs us Q I1 r1 q1) he hpl
theorem pe_callTy (hc : CallR X (.type T) r) (hg : Gl X x) (hm : X.mg x = none) (hv : bootBuiltins x = some (.type T)) (ha : PA X (e :: es) t) (hn : x ≠ "__name__" := by decide) (hdb : (x == ("__debug__" : Str)) = false := by decide)
    (he : starEach (e :: es) X.env = (false, eval e X.env) :: starEach es X.env := by rfl) (hpl : (backTo pos (starEach es X.env)).any (·.1) = false := by rfl) : PE X (.Call (.Name x p) (e :: es) [] pos) (tCB r t) := by
  intro pins s σ H Q I h
  refine wpAny_Call_Name_kw (ld_blt I hg hm hv ?_ hn hdb)
  exact PyProof.Rows.callWith_type1 (thn (ha pos pins s σ H _ I h) fun us s1 ⟨vs, H1, I1, r1, q1⟩ => hc pins s1 σ H1 vs us Q I1 r1 q1) he hpl
end
end L2
namespace HT
open PySem PyProof.Rows
section
open PySem.SeqAt
open PySem.AutoSeq1 (wpAny_loadPart')
open PySem.MeetsSeq PySem.MeetsSeq2 PySem.MeetsSeq3
end
section
variable {prog : Program} {w : World} {A : Around} {E : Value → Shared → Prop} {s : Shared}
def sIx (n d : Nat) : Option Int → Nat
  | none => d
  | some v => if v < 0 then (v + (n : Int)).toNat else min v.toNat n
end
end HT
namespace L2
open PySem PySem.Spec PyProof.Rows
abbrev TO := St → Hp → (Option Int → Hp → Prop) → Prop
def PO (X : Cx) (e : Option Expr) (t : TO) : Prop :=
  ∀ (pins : List (Addr × Obj)) (s : Shared) (σ : St) (H : Hp) (Q : Option Int → Hp → Prop), Inv X pins σ H s → t σ H Q →
    wpAny (model X.prog X.w) X.A (evalPart e X.env) (fun u s' => ∃ o H', Inv X pins σ H' s' ∧ IsPart u o ∧ Q o H') X.xe s
def tNoPart : TO := fun _ H Q => Q none H
def tPart (t : TE) : TO := fun σ H Q => t σ H fun x H1 => ∃ i, x = .int i ∧ Q (some i) H1
theorem intsAre_of {ns : List Int} : ∀ {us : List Value}, Vals (ns.map V.int) us → IntsAre us ns := by
  induction ns with
  | nil => intro us r; rw [List.map_nil] at r; cases r; exact .nil
  | cons n ns ih =>
    intro us r
    rw [List.map_cons] at r
    cases r with
    | cons r1 r2 =>
      obtain ⟨t, e⟩ := r1
      subst e
      exact .cons n t (ih r2)
section
variable {X : Cx} {e : Expr} {te : TE} {lo hi : Option Expr} {tl th : TO} {pos p2 : Pos}
theorem po_none : PO X none tNoPart := by
  intro pins s σ H Q I h
  rw [evalPart_none]
  exact wpAny_pure ⟨none, H, I, .none, h⟩
theorem po_some (h : PE X e te) : PO X (some e) (tPart te) := by
  intro pins s σ H Q I hw
  rw [evalPart_some]
  refine thn (h pins s σ H _ I hw) fun u s1 ⟨x, H1, I1, r1, q1⟩ => ?_
  obtain ⟨i, rfl, q⟩ := q1
  obtain ⟨t, rfl⟩ := r1
  exact ⟨some i, H1, I1, .int i t, q⟩
def SlR (X : Cx) (r : V → Option Int → Option Int → Hp → VK → Prop) : Prop :=
  ∀ (pins : List (Addr × Obj)) (s : Shared) (σ : St) (H : Hp) (x : V) (v vl vu : Value) (lo hi : Option Int) (sl : Addr) (Q : VK), Inv X pins σ H s → RelV x v → s.heap.IsSliceOf sl vl vu .none → IsPart vl lo → IsPart vu hi → r x lo hi H Q →
    ∃ T id, typeLookup (.type T) "__getitem__" = pure (some (.builtin id)) ∧ s.TypeIs v T ∧ wpAny (model X.prog X.w) X.A (getItem v (.ref sl)) (EP X pins σ Q) X.xe s
theorem SlR.or {r r' : V → Option Int → Option Int → Hp → VK → Prop} (h : SlR X r) (h' : SlR X r') : SlR X (fun x lo hi H Q => r x lo hi H Q ∨ r' x lo hi H Q) := by
  intro pins s σ H x v vl vu lo hi sl Q I rx hs pl pu q
  rcases q with q | q
  · exact h pins s σ H x v vl vu lo hi sl Q I rx hs pl pu q
  · exact h' pins s σ H x v vl vu lo hi sl Q I rx hs pl pu q
def tSl (r : V → Option Int → Option Int → Hp → VK → Prop) (te : TE) (tl th : TO) : TE := fun σ H Q => te σ H fun x H1 => tl σ H1 fun l H2 => th σ H2 fun u H3 => r x l u H3 Q
theorem pe_slice {r : V → Option Int → Option Int → Hp → VK → Prop} (hr : SlR X r) (he : PE X e te) (hl : PO X lo tl) (hu : PO X hi th) : PE X (.Subscript e (.Slice lo hi none p2) pos) (tSl r te tl th) := by
  intro pins s σ H Q I h
  refine Subscript_ (thn (he pins s σ H _ I h) fun v s1 ⟨x, H1, I1, r1, q1⟩ => ?_)
  refine wpAny_Slice (thn (hl pins s1 σ H1 _ I1 q1) fun vl s2 ⟨l, H2, I2, pl, q2⟩ => thn (hu pins s2 σ H2 _ I2 q2) fun vu s3 ⟨u, H3, I3, pu, q3⟩ => ?_)
  rw [evalPart_none]
  refine wpAny_pure ?_
  have I4 : Inv X pins σ H3 { s3 with heap := s3.heap.push { cls := .type "slice", data := .fields #[vl, vu, .none] } } := I3.kept (t' := s3.toks) fun b ob q => Heap.get?_push_of_some _ q
  obtain ⟨T, id, hT, ht, hg⟩ := hr pins { s3 with heap := s3.heap.push { cls := .type "slice", data := .fields #[vl, vu, .none] } } σ H3 x v vl vu l u s3.heap.objs.size Q I4 r1 (Heap.IsSliceOf.new ..) pl pu q3
  show wpAny (model X.prog X.w) X.A (subscriptTail e (.Slice lo hi none p2) v (.ref s3.heap.objs.size)) (EP X pins σ Q) X.xe { s3 with heap := s3.heap.push { cls := .type "slice", data := .fields #[vl, vu, .none] } }
  exact tail_any (ops := [.ref s3.heap.objs.size, v]) ht hT hg (by with_unfolding_all rfl)
def cutV (xs : List V) (lo hi : Option Int) : List V := (xs.drop (HT.sIx xs.length 0 lo)).take (HT.sIx xs.length xs.length hi - HT.sIx xs.length 0 lo)
theorem cutV_length (xs : List V) (lo hi : Option Int) : (cutV xs lo hi).length ≤ xs.length := by
  unfold cutV
  rw [List.length_take, List.length_drop]
  omega
end
end L2
namespace L2
open PySem PySem.Spec PyProof.Rows
def ixN (n : Nat) (i : Int) : Option Nat := if 0 ≤ i then (if i < n then some i.toNat else none) else if -(n : Int) ≤ i then some (i + n).toNat else none
def atI {α : Type} (xs : List α) (i : Int) : Option α := (ixN xs.length i).bind fun j => xs[j]?
theorem ixN_seq {n : Nat} {i : Int} {j : Nat} (h : ixN n i = some j) : seqIndex? i n = some j ∧ j < n ∧ -(n : Int) ≤ i ∧ i < n := by
  unfold ixN at h
  by_cases h0 : 0 ≤ i
  · rw [if_pos h0] at h
    by_cases h1 : i < n
    · rw [if_pos h1] at h
      have e : i.toNat = j := Option.some.inj h
      exact ⟨by rw [seqIndex_of h0 h1, e], by omega, by omega, h1⟩
    · rw [if_neg h1] at h; cases h
  · rw [if_neg h0] at h
    by_cases h1 : -(n : Int) ≤ i
    · rw [if_pos h1] at h
      have e : (i + n).toNat = j := Option.some.inj h
      exact ⟨by rw [seqIndex_neg (by omega) h1, e], by omega, h1, by omega⟩
    · rw [if_neg h1] at h; cases h
theorem atI_get {α : Type} {xs : List α} {i : Int} {v : α} (h : atI xs i = some v) : ∃ j, seqIndex? i xs.length = some j ∧ xs[j]? = some v ∧ j < xs.length ∧ -(xs.length : Int) ≤ i ∧ i < xs.length := by
  unfold atI at h
  cases e : ixN xs.length i with
  | none => rw [e] at h; cases h
  | some j =>
    rw [e] at h
    obtain ⟨h1, h2, h3, h4⟩ := ixN_seq e
    exact ⟨j, h1, h, h2, h3, h4⟩
def PlainIx (b : Expr) : Prop := ∀ o i, subscripted b false o i = operate [o, i] (getItem o i)
def IxR (X : Cx) (r : R2) : Prop :=
  ∀ (value slice : Expr) (pins : List (Addr × Obj)) (s : Shared) (σ : St) (H : Hp) (x y : V) (v u : Value) (Q : VK), Inv X pins σ H s → RelV x v → RelV y u → r x y H Q →
    subscripted slice false v u = operate [v, u] (getItem v u) → wpAny (model X.prog X.w) X.A (subscriptTail value slice v u) (EP X pins σ Q) X.xe s
def MtR (X : Cx) (id : String) (r : V → List V → Hp → VK → Prop) : Prop :=
  ∀ (pins : List (Addr × Obj)) (s : Shared) (σ : St) (H : Hp) (x : V) (xs : List V) (v : Value) (us : List Value) (Q : VK), Inv X pins σ H s → RelV x v → Vals xs us → r x xs H Q →
    wpAny (model X.prog X.w) X.A (call (.builtin id) (v :: us)) (EP X pins σ Q) X.xe s
section
variable {X : Cx} {a b : Expr} {ta tb : TE} {pos : Pos}
theorem IxR.or {r r' : R2} (h : IxR X r) (h' : IxR X r') : IxR X (fun x y H Q => r x y H Q ∨ r' x y H Q) := by
  intro value slice pins s σ H x y v u Q I rx ry q hs
  rcases q with q | q
  · exact h value slice pins s σ H x y v u Q I rx ry q hs
  · exact h' value slice pins s σ H x y v u Q I rx ry q hs
theorem pe_ix {r : R2} (hr : IxR X r) (ha : PE X a ta) (hb : PE X b tb) (hs : PlainIx b) : PE X (.Subscript a b pos) (tOp r ta tb) := by
  intro pins s σ H Q I h
  exact Subscript_ (binT ha hb I h fun v u s2 x y H2 I2 rx ry q => hr a b pins s2 σ H2 x y v u Q I2 rx ry q (hs _ _))
def rIxL (K : PySem.W.Frag) : R2 := fun x y H Q => ∃ p xs i v, x = .ref p ∧ y = .int i ∧ SqL K H p xs ∧ atI xs i = some v ∧ Q v H
def rIxT (K : PySem.W.Frag) : R2 := fun x y H Q => ∃ p xs i v, x = .ref p ∧ y = .int i ∧ SqT K H p xs ∧ atI xs i = some v ∧ Q v H
def rIxS : R2 := fun x y H Q => ∃ z i c, x = .str z ∧ y = .int i ∧ z.length ≤ sizeLine ∧ atI z.cps.toList i = some c ∧ Q (.str ⟨#[c]⟩) H
theorem ix_list : IxR X (rIxL X.K) := by
  intro value slice pins s σ H x y v u Q I rx ry h hs
  obtain ⟨p, xs, i, z, rfl, rfl, hq, he, q⟩ := h
  cases rx
  obtain ⟨t, rfl⟩ := ry
  obtain ⟨its, r, pl, hz⟩ := I.list hq
  obtain ⟨j, h1, h2, h3, h4, h5⟩ := atI_get he
  obtain ⟨w, ew, rw'⟩ := r.get h2
  have hl := r.length
  have hn := line63
  have fin : EP X pins σ Q w s := ⟨z, H, I, rw', q⟩
  by_cases h0 : 0 ≤ i
  · have hj : i.toNat = j := by
      rw [seqIndex_of h0 h5] at h1
      exact Option.some.inj h1
    exact item_listR pl.isList h0 (by omega) (by rw [hj]; simpa using ew) fin hs
  · have hj : (i + (its.toArray.size : Int)).toNat = j := by
      rw [seqIndex_neg (by omega) h4] at h1
      rw [List.size_toArray, ← hl]
      exact Option.some.inj h1
    exact subscriptTail_builtinR (x := w) pl.isList.typeIs slot_list_getitem.lookup
      (wpAny_getItem_list_neg (Q := fun r s' => r = w ∧ EP X pins σ Q r s') pl.isList (by omega) (by rw [List.size_toArray] <;> omega) (by omega) (by rw [hj]; simpa using ew) ⟨rfl, fin⟩) hs
theorem ix_tup : IxR X (rIxT X.K) := by
  intro value slice pins s σ H x y v u Q I rx ry h hs
  obtain ⟨p, xs, i, z, rfl, rfl, hq, he, q⟩ := h
  cases rx
  obtain ⟨t, rfl⟩ := ry
  obtain ⟨its, r, pl, hz⟩ := I.tuple hq
  obtain ⟨j, h1, h2, h3, h4, h5⟩ := atI_get he
  obtain ⟨w, ew, rw'⟩ := r.get h2
  have hl := r.length
  have hn := line63
  have fin : EP X pins σ Q w s := ⟨z, H, I, rw', q⟩
  exact subscriptTail_builtinR (x := w) pl.typeIs slot_tuple_getitem.lookup
    (getItem_tuple (j := j) (Q := fun r s' => r = w ∧ EP X pins σ Q r s') pl (by omega) (by omega) (by rw [List.size_toArray, ← hl]; exact h1) (by simpa using ew) ⟨rfl, fin⟩) hs
theorem ix_str : IxR X rIxS := by
  intro value slice pins s σ H x y v u Q I rx ry h hs
  obtain ⟨z, i, c, rfl, rfl, hz, he, q⟩ := h
  obtain ⟨t, rfl⟩ := rx
  obtain ⟨t', rfl⟩ := ry
  obtain ⟨j, h1, h2, h3, h4, h5⟩ := atI_get he
  have hl : z.cps.toList.length = z.length := by simp [Str.length]
  rw [hl] at h1 h4 h5
  have hn := line63
  exact tail_any (typeIs_str s z t) slot_str_getitem.lookup (getItem_str (c := c) (by
    have e1 : decide (i < -(2 ^ 63 : Int)) = false := decide_eq_false (by omega)
    have e2 : decide (i ≥ 2 ^ 63) = false := decide_eq_false (by omega)
    rw [e1, e2, Bool.or_false]) (by rw [h1]; simpa using h2) ⟨.str ⟨#[c]⟩, H, I.tok _, ⟨_, rfl⟩, q⟩) hs
def rIx (K : PySem.W.Frag) : R2 := fun x y H Q => rIxL K x y H Q ∨ rIxT K x y H Q ∨ rIxS x y H Q
theorem ix_seq : IxR X (rIx X.K) := ix_list.or (ix_tup.or ix_str)
theorem mapSeq_set (its : List Value) (n j : Nat) (u : Value) : Obj.mapSeq (·.setIfInBounds j u) { cls := .type "list", data := .seq its.toArray n } = { cls := .type "list", data := .seq (its.set j u).toArray n } := by
  simp [Obj.mapSeq]
theorem Inv.lst {pins : List (Addr × Obj)} {σ : St} {H : Hp} {s : Shared} {p : Addr} {xs : List V} (I : Inv X pins σ H s) (h : H p = some (.lst xs)) :
    ∃ (its : List Value) (n : Nat), Vals xs its ∧ s.heap.get? p = some { cls := .type "list", data := .seq its.toArray n } ∧ xs.length ≤ sizeLine := by
  obtain ⟨z, its, n, r, e⟩ := I.hok p _ h
  exact ⟨its, n, r, e, z⟩
theorem Inv.lstUpd {pins : List (Addr × Obj)} {σ : St} {H : Hp} {s : Shared} {p : Addr} {xs ys : List V} {its its' : List Value} {n n' : Nat} {f : Obj → Obj} (I : Inv X pins σ H s) (h : H p = some (.lst xs))
    (ho : s.heap.get? p = some { cls := .type "list", data := .seq its.toArray n }) (hf : f { cls := .type "list", data := .seq its.toArray n } = { cls := .type "list", data := .seq its'.toArray n' }) (r : Vals ys its') (hz : ys.length ≤ sizeLine) (t : Nat) :
    Inv X pins σ (upd H p (.lst ys)) { s with heap := s.heap.update p f, toks := t } := by
  have e : (s.heap.update p f).get? p = some { cls := .type "list", data := .seq its'.toArray n' } := by
    rw [Heap.get?_update_self f ho (by rw [hf] <;> rfl), hf]
  refine I.write (x := p) (e := p) (by rw [h]; trivial) (.inl rfl) (fun b u hb q => (Heap.get?_update_other _ _ (Ne.symm hb)).trans q) ⟨_, e⟩ ?_
  exact ⟨hz, its', n', r, e⟩
def rSetL : V → V → V → Hp → (Hp → Prop) → Prop := fun o i v H Q => ∃ p xs k j, o = .ref p ∧ i = .int k ∧ H p = some (.lst xs) ∧ ixN xs.length k = some j ∧ Q (upd H p (.lst (xs.set j v)))
theorem set_list : PSet X rSetL := by
  intro pins s σ H o i v ov iv u Q I ro ri rv h
  obtain ⟨p, xs, k, j, rfl, rfl, hp, hj, q⟩ := h
  cases ro
  obtain ⟨t, rfl⟩ := ri
  obtain ⟨its, n, r, ho, hz⟩ := I.lst hp
  obtain ⟨h1, h2, h3, h4⟩ := ixN_seq hj
  have hl := r.length
  have hn := line63
  have I' : Inv X pins σ (upd H p (.lst (xs.set j v))) { s with heap := s.heap.update p (Obj.mapSeq (·.setIfInBounds j u)) } :=
    I.lstUpd hp ho (mapSeq_set its n j u) (r.set rv j) (by rw [List.length_set]; exact hz) s.toks
  by_cases h0 : 0 ≤ k
  · have hk : k.toNat = j := by
      rw [seqIndex_of h0 h4] at h1
      exact Option.some.inj h1
    exact PySem.W.ki_setAt ho h0 (by omega) (by rw [List.size_toArray, ← hl]; exact h4) (by rw [hk]; exact ⟨_, I', q⟩)
  · have hk : (k + (its.toArray.size : Int)).toNat = j := by
      rw [seqIndex_neg (by omega) h3] at h1
      rw [List.size_toArray, ← hl]
      exact Option.some.inj h1
    exact PySem.W.ki_setBack ho (by omega) (by rw [List.size_toArray, ← hl]; exact h3) (by omega) (by rw [hk]; exact ⟨_, I', q⟩)
theorem slice_bounds (lo hi : Option Int) (n : Nat) : (sliceBounds lo hi none n).1 = ((HT.sIx n 0 lo : Nat) : Int) ∧ (sliceBounds lo hi none n).2.1 = ((HT.sIx n n hi : Nat) : Int) ∧ (sliceBounds lo hi none n).2.2 = 1 := by
  refine ⟨?_, ?_, rfl⟩
  · cases lo with
    | none => simp [sliceBounds, HT.sIx]
    | some i =>
      simp only [sliceBounds, HT.sIx, Option.getD_none, show (1 : Int) > 0 by decide, if_true]
      by_cases h : i < 0
      · simp only [h, if_true] <;> omega
      · simp only [h, if_false] <;> omega
  · cases hi with
    | none => simp [sliceBounds, HT.sIx]
    | some i =>
      simp only [sliceBounds, HT.sIx, Option.getD_none, show (1 : Int) > 0 by decide, if_true]
      by_cases h : i < 0
      · simp only [h, if_true] <;> omega
      · simp only [h, if_false] <;> omega
theorem slicePick_cut (its : List Value) (lo hi : Option Int) : slicePick its.toArray lo hi none = ((its.drop (HT.sIx its.length 0 lo)).take (HT.sIx its.length its.length hi - HT.sIx its.length 0 lo)).toArray := by
  obtain ⟨h1, h2, h3⟩ := slice_bounds lo hi its.toArray.size
  unfold slicePick
  rw [h1, h2, h3]
  simp only [sliceRange_one, pick_run, List.size_toArray] <;> rfl
def rSlL (K : PySem.W.Frag) : V → Option Int → Option Int → Hp → VK → Prop := fun x lo hi H Q => ∃ a xs, x = .ref a ∧ SqL K H a xs ∧ ∀ p, H p = none → Q (.ref p) (upd H p (.lst (cutV xs lo hi)))
theorem sl_list : SlR X (rSlL X.K) := by
  intro pins s σ H x v vl vu lo hi sl Q I rx hs pl pu h
  obtain ⟨a, xs, rfl, hx, q⟩ := h
  cases rx
  obtain ⟨its, r, ht, hz⟩ := I.list hx
  have hlen := r.length
  refine ⟨"list", _, slot_list_getitem.lookup, ht.isList.typeIs, ?_⟩
  refine wpAny_getItem_list_slice ht.isList hs pl pu .none (by simp) ?_ (by rw [List.size_toArray] <;> omega)
  rw [slicePick_cut, ← hlen]
  refine ⟨.ref s.heap.objs.size, _, I.laid (t' := s.toks) (o := .lst (cutV xs lo hi)) (fun b ob q => Heap.get?_push_of_some _ q) (Nat.le_refl _) ?_, rfl, q _ (I.hok.fresh (Nat.le_refl _))⟩
  exact ⟨Nat.le_trans (cutV_length xs lo hi) hz, _, 0, (r.drop (HT.sIx xs.length 0 lo)).take (HT.sIx xs.length xs.length hi - HT.sIx xs.length 0 lo), Heap.get?_push_size _ rfl⟩
theorem call_len_seq : CallR X (.builtin "len") (fun xs H Q => ∃ p ys, xs = [.ref p] ∧ (SqL X.K H p ys ∨ SqT X.K H p ys) ∧ Q (.int ys.length) H) := by
  intro pins s σ H xs us Q I r h
  obtain ⟨p, ys, rfl, hq, q⟩ := h
  obtain ⟨u, rfl, rx⟩ := vals1 r
  cases rx
  have hn := line63
  rcases hq with hq | hq
  · obtain ⟨its, r', pl, hz⟩ := I.list hq
    have hlen := r'.length
    exact Calls.call_len_list pl.isList (by simp only [List.size_toArray] <;> omega) ⟨.int ys.length, H, I.tok _, ⟨s.toks + 1, by rw [List.size_toArray, hlen]⟩, q⟩
  · obtain ⟨its, r', pl, hz⟩ := I.tuple hq
    have hlen := r'.length
    exact len_tuple pl (by simp only [List.size_toArray] <;> omega) ⟨.int ys.length, H, I.tok _, ⟨s.toks + 1, by rw [List.size_toArray, hlen]⟩, q⟩
theorem call_len_str : CallR X (.builtin "len") (fun xs H Q => ∃ z, xs = [.str z] ∧ z.length ≤ sizeLine ∧ Q (.int z.length) H) := by
  intro pins s σ H xs us Q I r h
  obtain ⟨z, rfl, hz, q⟩ := h
  obtain ⟨u, rfl, t, rfl⟩ := vals1 r
  have hn := line63
  exact len_str (by omega) ⟨.int z.length, H, I.tok _, ⟨_, rfl⟩, q⟩
theorem CallR.or {f : Value} {r r' : List V → Hp → VK → Prop} (h : CallR X f r) (h' : CallR X f r') : CallR X f (fun xs H Q => r xs H Q ∨ r' xs H Q) := by
  intro pins s σ H xs us Q I rs q
  rcases q with q | q
  · exact h pins s σ H xs us Q I rs q
  · exact h' pins s σ H xs us Q I rs q
theorem call_list_of : CallR X (.type "list") (fun xs H Q => ∃ p ys, xs = [.ref p] ∧ (SqL X.K H p ys ∨ SqT X.K H p ys) ∧ ∀ l, H l = none → Q (.ref l) (upd H l (.lst ys))) := by
  intro pins s σ H xs us Q I r h
  obtain ⟨p, ys, rfl, hq, q⟩ := h
  obtain ⟨u, rfl, rx⟩ := vals1 r
  cases rx
  have fin : ∀ (its : List Value), Vals ys its → ys.length ≤ sizeLine → ∀ (h' : Heap) (c' : Nat), (∀ b o', s.heap.get? b = some o' → h'.get? b = some o') →
      h'.get? s.heap.objs.size = some { cls := .type "list", dict := none, data := .seq its.toArray c', slots := #[] } → EP X pins σ Q (.ref s.heap.objs.size) { s with heap := h' } := fun its r' hz h' c' kp e =>
    ⟨.ref s.heap.objs.size, _, I.laid (t' := s.toks) kp (Nat.le_refl _) (show ObjOk X.prog X.w _ h' _ (.lst ys) from ⟨hz, its, c', r', e⟩), rfl, q _ (I.hok.fresh (Nat.le_refl _))⟩
  rcases hq with hq | hq
  · obtain ⟨its, r', pl, hz⟩ := I.list hq
    have hlen := r'.length
    obtain ⟨o, ho, hc, n, hd⟩ := pl.isList
    exact call_list_seq p (.inl rfl) ho hc hd (fun h' c' kp e => fin its r' hz h' c' kp e) (by simp only [List.size_toArray] <;> omega)
  · obtain ⟨its, r', pl, hz⟩ := I.tuple hq
    have hlen := r'.length
    obtain ⟨o, ho, hc, n, hd⟩ := pl
    exact call_list_seq p (.inr rfl) ho hc hd (fun h' c' kp e => fin its r' hz h' c' kp e) (by simp only [List.size_toArray] <;> omega)
def tyV (K : PySem.W.Frag) (T : String) (x : V) (H : Hp) : Prop := match x with
  | .str _ => T = "str"
  | .int _ => T = "int"
  | .ref p => (T = "list" ∧ ∃ xs, SqL K H p xs) ∨ (T = "tuple" ∧ ∃ o, K.lookup p = some o ∧ o.cls = .type "tuple" ∧ o.dict = none) ∨
      (T = "dict" ∧ ((∃ kvs, H p = some (.dK kvs)) ∨ ∃ kvs, H p = some (.dT kvs))) ∨ (T = "set" ∧ ∃ S n, H p = some (.set S n))
  | _ => False
theorem tyV_is {pins : List (Addr × Obj)} {σ : St} {H : Hp} {s : Shared} {T : String} {x : V} {v : Value} (I : Inv X pins σ H s) (r : RelV x v) (ty : tyV X.K T x H) :
    s.TypeIs v T ∧ ∀ a, v = .ref a → ∃ ob, s.heap.get? a = some ob ∧ ob.dict = none := by
  cases x with
  | str z =>
    obtain ⟨t, rfl⟩ := r
    cases (show T = "str" from ty)
    exact ⟨typeIs_str s z t, fun _ e => nomatch e⟩
  | int i =>
    obtain ⟨t, rfl⟩ := r
    cases (show T = "int" from ty)
    exact ⟨typeIs_int s i t, fun _ e => nomatch e⟩
  | ref p =>
    cases r
    rcases ty with ⟨rfl, xs, hq⟩ | ⟨rfl, o, hk, hc, hd⟩ | ⟨rfl, hk⟩ | ⟨rfl, S, n, hk⟩
    · obtain ⟨its, _, pl, _⟩ := I.list hq
      refine ⟨pl.isList.typeIs, fun a e => ?_⟩
      cases e
      obtain ⟨o, n, e, c, hd, _⟩ := pl
      exact ⟨o, e, hd⟩
    · refine ⟨⟨o, I.kIn p o hk, hc⟩, fun a e => ?_⟩
      cases e
      exact ⟨o, I.kIn _ o hk, hd⟩
    · have z : ∃ o, s.heap.get? p = some o ∧ o.ExactDict := by
        rcases hk with ⟨kvs, hk⟩ | ⟨kvs, hk⟩
        · obtain ⟨_, _, _, _, o, _, _, e, ex, _⟩ := I.hok p _ hk
          exact ⟨o, e, ex⟩
        · obtain ⟨_, _, _, _, o, _, _, e, ex, _⟩ := I.hok p _ hk
          exact ⟨o, e, ex⟩
      obtain ⟨o, e, ex⟩ := z
      refine ⟨⟨o, e, ex.1⟩, fun a e2 => ?_⟩
      cases e2
      exact ⟨o, e, ex.2.1⟩
    · obtain ⟨o, _, _, _, e, ex, _⟩ := I.hok p _ hk
      refine ⟨⟨o, e, ex.1⟩, fun a e2 => ?_⟩
      cases e2
      exact ⟨o, e, ex.2.1⟩
  | _ => exact False.elim ty
def tBM0 (K : PySem.W.Frag) (T : String) (r : V → List V → Hp → VK → Prop) (to : TE) : TE := fun σ H Q => to σ H fun x H1 => tyV K T x H1 ∧ r x [] H1 Q
def tBM (K : PySem.W.Frag) (T : String) (r : V → List V → Hp → VK → Prop) (to : TE) (t : TA) : TE := fun σ H Q => to σ H fun x H1 => tyV K T x H1 ∧ t σ H1 fun xs H2 => r x xs H2 Q
variable {o e : Expr} {es : List Expr} {to : TE} {t : TA} {name : Str} {apos cpos : Pos} {T id : String} {r : V → List V → Hp → VK → Prop}
theorem pe_bm0 (pa : PlainAttrs T) (slot : Slot T name id) (hty : typeOf (.builtin id) = pure (.type "method_descriptor")) (hm : MtR X id r) (ho : PE X o to)
    (hbase : attributeBase o name X.env (eval o X.env) = eval o X.env := by rfl) (hline : (apos.endLine == cpos.line) = true := by rfl) : PE X (.Call (.Attribute o name apos) [] [] cpos) (tBM0 X.K T r to) := by
  intro pins s σ H Q I h
  refine wpAny_Call_method0_late hbase hline (thn (ho pins s σ H _ I h) fun v s1 ⟨x, H1, I1, r1, ty, q1⟩ => ?_)
  obtain ⟨h1, h2⟩ := tyV_is I1 r1 ty
  exact ⟨T, id, pa, slot, hty, h1, h2, Calls.callWith_builtin rfl (PySem.evalArgs_none (hm pins s1 σ H1 x [] v [] Q I1 r1 .nil q1))⟩
theorem pe_bm (pa : PlainAttrs T) (slot : Slot T name id) (hty : typeOf (.builtin id) = pure (.type "method_descriptor")) (hm : MtR X id r) (ho : PE X o to) (ha : PA X (e :: es) t)
    (hbase : attributeBase o name X.env (eval o X.env) = eval o X.env := by rfl)
    (hfew : ((backTo cpos (starEach (e :: es) X.env)).all (fun x => !x.1) && (backToKw cpos (keywordEach [] X.env)).all (fun x => x.1.isSome)
      && decide ((e :: es).length + ([] : List Keyword).length + (if ([] : List Keyword).isEmpty then 0 else 1) < 30)) = true := by rfl)
    (hline : (apos.endLine == cpos.line) = true := by rfl) (hs : starEach (e :: es) X.env = (false, eval e X.env) :: starEach es X.env := by rfl) (hplain : (backTo cpos (starEach es X.env)).any (·.1) = false := by rfl) :
    PE X (.Call (.Attribute o name apos) (e :: es) [] cpos) (tBM X.K T r to t) := by
  intro pins s σ H Q I h
  refine wpAny_Call_method_late hbase hfew hline rfl (thn (ho pins s σ H _ I h) fun v s1 ⟨x, H1, I1, r1, ty, q1⟩ => ?_)
  obtain ⟨h1, h2⟩ := tyV_is I1 r1 ty
  refine ⟨T, id, pa, slot, hty, h1, h2, ?_⟩
  have hA := ha cpos pins s1 σ H1 _ I1 q1
  rw [hs] at hA ⊢
  refine Calls.callWith_builtin (by show (false || (backTo cpos (starEach es X.env)).any (·.1)) = false; rw [hplain] <;> rfl) (Calls.evalArgs_plain ?_)
  exact thn hA fun us s2 ⟨vs, H2, I2, r2, q2⟩ => hm pins s2 σ H2 x vs v us Q I2 r1 r2 q2
/- xs.append(e), list.index on a module's tuple .. are MtR facts of 06m -/
end
end L2
namespace L2
open PySem PySem.Spec PyProof.Rows
def MtM (X : Cx) (id : String) (r : V → List V → Hp → VK → Prop) : Prop :=
  ∀ (pins : List (Addr × Obj)) (s : Shared) (σ : St) (H : Hp) (x : V) (xs : List V) (v : Value) (us : List Value) (Q : VK), Inv X pins σ H s → RelV x v → Vals xs us → r x xs H Q →
    wpAny (model X.prog X.w) X.A (call (.builtin id) (v :: us)) (EP X pins σ Q) X.xe s
theorem Vals.one : ∀ {x : V} {us : List Value}, Vals [x] us → ∃ u, us = [u] ∧ RelV x u
  | _, _, .cons r .nil => ⟨_, rfl, r⟩
theorem Vals.zero : ∀ {us : List Value}, Vals [] us → us = []
  | _, .nil => rfl
theorem Vals.dropLast {xs : List V} {us : List Value} (h : Vals xs us) : Vals xs.dropLast us.dropLast := by
  induction h with
  | nil => exact .nil
  | cons r t ih =>
    cases t with
    | nil => exact .nil
    | cons q t' => exact .cons r ih
theorem Vals.eraseIdx : ∀ {xs : List V} {us : List Value} (i : Nat), Vals xs us → Vals (xs.eraseIdx i) (us.eraseIdx i)
  | _, _, _, .nil => .nil
  | _, _, 0, .cons _ t => t
  | _, _, i + 1, .cons r t => .cons r (Vals.eraseIdx i t)
theorem Vals.rep {xs : List V} {us : List Value} (h : Vals xs us) : ∀ k : Nat, Vals (List.replicate k xs).flatten (List.replicate k us).flatten
  | 0 => .nil
  | k + 1 => by
    rw [List.replicate_succ, List.replicate_succ, List.flatten_cons, List.flatten_cons]
    exact Vals.append h (Vals.rep h k)
theorem erase_last {α : Type} (l : List α) : l.eraseIdx (l.length - 1) = l.dropLast := by
  induction l with
  | nil => rfl
  | cons a r ih =>
    cases r with
    | nil => rfl
    | cons b r =>
      have e : (a :: b :: r).length - 1 = ((b :: r).length - 1) + 1 := by
        have h1 : (a :: b :: r).length = r.length + 2 := rfl
        have h2 : (b :: r).length = r.length + 1 := rfl
        omega
      rw [e, List.eraseIdx_cons_succ, ih]
      all_goals rfl
theorem len_erase {α : Type} : ∀ (l : List α) (i : Nat), (l.eraseIdx i).length ≤ l.length
  | [], _ => Nat.le_refl _
  | _ :: _, 0 => Nat.le_succ _
  | _ :: r, i + 1 => Nat.succ_le_succ (len_erase r i)
theorem foldl_rep (its : List Value) : ∀ (k : Nat) (acc : List Value),
    List.foldl (fun x1 x2 => x1 ++ x2) acc.toArray (List.replicate k its.toArray) = (acc ++ (List.replicate k its).flatten).toArray
  | 0, acc => by simp
  | k + 1, acc => by
    have e : acc.toArray ++ its.toArray = (acc ++ its).toArray := by simp
    have e2 : (acc ++ its) ++ (List.replicate k its).flatten = acc ++ (List.replicate (k + 1) its).flatten := by
      rw [List.replicate_succ, List.flatten_cons, List.append_assoc]
    rw [← e2, ← foldl_rep its k (acc ++ its), ← e, List.replicate_succ, List.foldl_cons]
section
variable {X : Cx} {pins : List (Addr × Obj)} {σ : St} {H : Hp} {s : Shared} {l b : Addr} {xs ys zs : List V}
theorem Inv.lset {its its' : List Value} {n : Nat} {f : Array Value → Array Value} {t' : Nat} (I : Inv X pins σ H s) (hH : H l = some (.lst xs))
    (e : s.heap.get? l = some { cls := .type "list", data := .seq its.toArray n }) (hf : f its.toArray = its'.toArray) (hv : Vals ys its') (hz : ys.length ≤ sizeLine) :
    Inv X pins σ (upd H l (.lst ys)) { s with heap := s.heap.update l (Obj.mapSeq f), toks := t' } := by
  have q := PySem.IsL.update e f
  rw [hf] at q
  refine I.write (x := l) (e := l) (by rw [hH]; exact trivial) (.inl rfl) (fun b' u hb hu => (Heap.get?_update_other s.heap (Obj.mapSeq f) (Ne.symm hb)).trans hu) ⟨_, q⟩ ?_
  exact ⟨hz, its', _, hv, q⟩
theorem Inv.lnew {its : List Value} {t' : Nat} (I : Inv X pins σ H s) (hv : Vals ys its) (hz : ys.length ≤ sizeLine) :
    Inv X pins σ (upd H s.heap.objs.size (.lst ys)) { s with heap := s.heap.push { cls := .type "list", data := .seq its.toArray }, toks := t' } :=
  I.laid (fun _ _ q => Heap.get?_push_of_some _ q) (Nat.le_refl _) ⟨hz, its, 0, hv, Heap.get?_push_size _ rfl⟩
theorem Inv.fresh (I : Inv X pins σ H s) : H s.heap.objs.size = none := I.hok.fresh (Nat.le_refl _)
theorem Inv.lstM (I : Inv X pins σ H s) (hH : H l = some (.lst xs)) : xs.length ≤ sizeLine ∧ ∃ (its : List Value) (n : Nat), Vals xs its ∧ xs.length = its.length ∧ s.heap.get? l = some { cls := .type "list", data := .seq its.toArray n } := by
  obtain ⟨z, its, n, r, e⟩ := I.hok l _ hH
  exact ⟨z, its, n, r, r.length, e⟩
theorem notLongL {n : Nat} (h : n ≤ sizeLine) : Builtin.List.listTooLong n = false := by
  unfold Builtin.List.listTooLong
  exact decide_eq_false (by omega)
end
section
variable {X : Cx}
def rAppend : V → List V → Hp → VK → Prop := fun x vs H Q => ∃ l xs y, x = .ref l ∧ vs = [y] ∧ H l = some (.lst xs) ∧ xs.length < sizeLine ∧ Q .non (upd H l (.lst (xs ++ [y])))
theorem mt_append : MtM X "list.append" rAppend := by
  intro pins s σ H x vs v us Q I rx rv h
  obtain ⟨l, xs, y, rfl, rfl, hH, hz, q⟩ := h
  cases rx
  obtain ⟨u, rfl, ru⟩ := rv.one
  obtain ⟨z, its, n, r, hl, e⟩ := I.lstM hH
  refine call_meets F.slot_list_append ⟨_, e, rfl⟩ F.entry_list_append (F.args_list_append_2 _ _) (PySem.list_append l its.toArray n u (by rw [List.size_toArray]; omega)) ⟨e, ?_⟩
  refine ⟨.non, _, I.lset (its' := its ++ [u]) hH e (by simp) (r.append (.cons ru .nil)) ?_, rfl, q⟩
  rw [List.length_append, List.length_singleton]
  omega
def rPop : V → List V → Hp → VK → Prop := fun x vs H Q => ∃ l xs y, x = .ref l ∧ vs = [] ∧ H l = some (.lst xs) ∧ xs[xs.length - 1]? = some y ∧ Q y (upd H l (.lst xs.dropLast))
theorem mt_pop : MtM X "list.pop" rPop := by
  intro pins s σ H x vs v us Q I rx rv h
  obtain ⟨l, xs, y, rfl, rfl, hH, hy, q⟩ := h
  cases rx
  have hus := rv.zero
  subst hus
  obtain ⟨z, its, n, r, hl, e⟩ := I.lstM hH
  obtain ⟨u, hu, ru⟩ := r.get hy
  have hy' : its.toArray[its.toArray.size - 1]? = some u := by
    show its.toArray[its.length - 1]? = some u
    rw [← Array.getElem?_toList, ← hl]
    exact hu
  refine call_meets F.slot_list_pop ⟨_, e, rfl⟩ F.entry_list_pop (F.args_list_pop_1 _) (MeetsSeq.list_pop_last l its.toArray n u hy' (by rw [List.size_toArray]; omega)) ⟨e, ?_⟩
  refine ⟨y, _, I.lset (its' := its.dropLast) hH e ?_ r.dropLast ?_, ru, q⟩
  · show its.toArray.eraseIdxIfInBounds (its.toArray.size - 1) = its.dropLast.toArray
    rw [List.size_toArray, List.eraseIdxIfInBounds_toArray, erase_last]
  · rw [List.length_dropLast]
    omega
def rPopAt : V → List V → Hp → VK → Prop := fun x vs H Q => ∃ l xs i k y, x = .ref l ∧ vs = [.int i] ∧ H l = some (.lst xs) ∧ -(2 ^ 63) ≤ i ∧ i < 2 ^ 63 ∧ seqIndex? i xs.length = some k ∧ xs[k]? = some y ∧ Q y (upd H l (.lst (xs.eraseIdx k)))
theorem mt_popAt : MtM X "list.pop" rPopAt := by
  intro pins s σ H x vs v us Q I rx rv h
  obtain ⟨l, xs, i, k, y, rfl, rfl, hH, h1, h2, hk, hy, q⟩ := h
  cases rx
  obtain ⟨u, rfl, ru⟩ := rv.one
  obtain ⟨t, rfl⟩ := ru
  obtain ⟨z, its, n, r, hl, e⟩ := I.lstM hH
  obtain ⟨w, hw, rw'⟩ := r.get hy
  refine call_meets F.slot_list_pop ⟨_, e, rfl⟩ F.entry_list_pop (F.args_list_pop_2 _ _)
    (MeetsSeq.list_pop_at l its.toArray n i t k w (fitsIndex_both h1 h2) (by rw [List.size_toArray, ← hl]; exact hk) (by rw [← Array.getElem?_toList]; exact hw) (by rw [List.size_toArray]; omega)) ⟨e, ?_⟩
  refine ⟨y, _, I.lset (its' := its.eraseIdx k) hH e ?_ (r.eraseIdx k) ?_, rw', q⟩
  · show its.toArray.eraseIdxIfInBounds k = (its.eraseIdx k).toArray
    rw [List.eraseIdxIfInBounds_toArray]
  · have := len_erase xs k
    omega
def rClear : V → List V → Hp → VK → Prop := fun x vs H Q => ∃ l xs, x = .ref l ∧ vs = [] ∧ H l = some (.lst xs) ∧ Q .non (upd H l (.lst []))
theorem mt_clear : MtM X "list.clear" rClear := by
  intro pins s σ H x vs v us Q I rx rv h
  obtain ⟨l, xs, rfl, rfl, hH, q⟩ := h
  cases rx
  have hus := rv.zero
  subst hus
  obtain ⟨z, its, n, r, hl, e⟩ := I.lstM hH
  refine call_meets F.slot_list_clear ⟨_, e, rfl⟩ F.entry_list_clear (F.args_list_clear_1 _) (AutoSeq1.list_clear_list_0 l its.toArray n (by rw [List.size_toArray]; omega)) ⟨e, ?_⟩
  exact ⟨.non, _, I.lset (its' := []) (ys := []) hH e rfl .nil (Nat.zero_le _), rfl, q⟩
def rCat : R2 := fun x y H Q => ∃ l b xs zs, x = .ref l ∧ y = .ref b ∧ H l = some (.lst xs) ∧ H b = some (.lst zs) ∧ xs.length + zs.length ≤ sizeLine ∧ ∀ p, H p = none → Q (.ref p) (upd H p (.lst (xs ++ zs)))
theorem op_cat : OpR X (binaryOp .Add) rCat := by
  intro pins s σ H x y v u Q I rx ry h
  obtain ⟨l, b, xs, zs, rfl, rfl, hH, hB, hz, q⟩ := h
  cases rx
  cases ry
  obtain ⟨z, its, n, r, hl, e⟩ := I.lstM hH
  obtain ⟨z2, its2, n2, r2, hl2, e2⟩ := I.lstM hB
  refine PySem.P.add_list e e2 ?_ (by rw [List.size_toArray, List.size_toArray]; omega)
  have ea : its.toArray ++ its2.toArray = (its ++ its2).toArray := by simp
  rw [ea]
  exact ⟨.ref _, _, I.lnew (t' := s.toks) (r.append r2) (by rw [List.length_append]; omega), rfl, q _ I.fresh⟩
def rRep : R2 := fun x y H Q => ∃ l k xs, x = .ref l ∧ y = .int k ∧ H l = some (.lst xs) ∧ -(2 ^ 63) ≤ k ∧ k < 2 ^ 63 ∧ xs.length * k.toNat ≤ sizeLine ∧
  ∀ p, H p = none → Q (.ref p) (upd H p (.lst (List.replicate k.toNat xs).flatten))
theorem len_rep {α : Type} (xs : List α) (k : Nat) : (List.replicate k xs).flatten.length = k * xs.length := by
  induction k with
  | zero => simp
  | succ k ih => rw [List.replicate_succ, List.flatten_cons, List.length_append, ih, Nat.succ_mul, Nat.add_comm]
theorem op_rep : OpR X (binaryOp .Mult) rRep := by
  intro pins s σ H x y v u Q I rx ry h
  obtain ⟨l, k, xs, rfl, rfl, hH, h1, h2, hz, q⟩ := h
  cases rx
  obtain ⟨t, rfl⟩ := ry
  obtain ⟨z, its, n, r, hl, e⟩ := I.lstM hH
  have hlen : its.toArray.size * k.toNat ≤ sizeLine := by rw [List.size_toArray, ← hl]; exact hz
  have hcap : ¬ its.toArray.size * k.toNat > (2 ^ 63 - 1) / 8 := by
    have : (sizeLine : Nat) ≤ (2 ^ 63 - 1) / 8 := by decide
    omega
  have hfit : ¬ (!Builtin.List.listFitsIndex k) = true := by
    rw [fitsIndex_both h1 h2]
    exact Bool.false_ne_true
  have hlong : ¬ Builtin.List.listTooLong (its.toArray.size * k.toNat) = true := by
    rw [notLongL hlen]
    exact Bool.false_ne_true
  have hnew : List.foldl (fun x1 x2 => x1 ++ x2) #[] (List.replicate (if its.toArray.isEmpty = true then 0 else k.toNat) its.toArray) = (List.replicate k.toNat its).flatten.toArray := by
    have f0 : ∀ m : Nat, List.foldl (fun x1 x2 => x1 ++ x2) #[] (List.replicate m its.toArray) = (List.replicate m its).flatten.toArray := fun m => by
      have := foldl_rep its m []
      rw [List.nil_append] at this
      exact this
    rw [f0]
    cases its with
    | nil => simp
    | cons a r' => rw [if_neg (by simp)]
  refine wpAny_binaryOp_repeat_ref (T := "list") (U := "int") (by decide) ⟨_, e, rfl⟩ (fun s' => typeIs_int s' k t) noFill_list_mul F.fills_int_mul F.slot_int_rmul repeat_list F.slot_int_index.lookup
    (call_meets F.slot_int_rmul (typeIs_int s k t) F.entry_int_rmul (F.args_int_rmul_2 _ _) (int___rmul___int_list k t l its.toArray n)
      ⟨e, rfl, ⟨_, e, rfl⟩, call_meets F.slot_list_mul ⟨_, e, rfl⟩ F.entry_list_mul (F.args_list_mul_2 _ _) (AutoListH.list___mul___list_int_3 l its.toArray n k t hfit hcap hlong) ⟨e, ?_⟩⟩)
  rw [hnew]
  exact ⟨.ref _, _, I.lnew (t' := s.toks) (r.rep k.toNat) (by rw [len_rep, Nat.mul_comm]; exact hz), rfl, q _ I.fresh⟩
end
section
variable {prog : Program} {w : World} {A : Around} {E : Value → Shared → Prop} {s : Shared}
end
section
variable {X : Cx}
end
end L2
namespace L2
open PySem PySem.Spec PyProof.Rows
section
variable {κ : Type} [DecidableEq κ]
end
abbrev KT (H : Hp) : List (List Key × V) → List (List Key × Addr × Value) → Prop := Paired fun p q => p.1 = q.1 ∧ H q.2.1 = some (.tup (p.1.map kV)) ∧ RelV p.2 q.2.2
section
variable {P : Program} {w : World} {H : Hp} {h : Heap} {a : Addr}
end
section
variable {X : Cx} {pins : List (Addr × Obj)} {σ : St} {H : Hp} {s : Shared} {a : Addr} {y v : V} {u r : Value} {o : Option V} {A : Around} {E : Value → Shared → Prop}
end
section
variable {X : Cx} {pins : List (Addr × Obj)} {σ : St} {H : Hp} {s : Shared} {a : Addr} {kvs : List (Key × V)} {k : Key} {u : Value} {A : Around} {E : Value → Shared → Prop}
end
section
variable {X : Cx} {o i e value : Expr} {pos pos' tpos : Pos} {td ty tv : TE}
end
section
variable {X : Cx} {pos : Pos}
end
structure M1 (X : Cx) (o : Expr) (m : Str) (apos : Pos) (e : Expr) (cpos : Pos) : Prop where
  base : attributeBase o m X.env (eval o X.env) = eval o X.env
  few : ((backTo cpos (starEach [e] X.env)).all (fun x => !x.1) && (backToKw cpos (keywordEach [] X.env)).all (fun x => x.1.isSome)
    && decide (([e] : List Expr).length + ([] : List Keyword).length + (if ([] : List Keyword).isEmpty then 0 else 1) < 30)) = true
  line : (apos.endLine == cpos.line) = true
  trees : backTo cpos (starEach [e] X.env) = [(false, eval e X.env)]
structure M2 (X : Cx) (o : Expr) (m : Str) (apos : Pos) (e f : Expr) (cpos : Pos) : Prop where
  base : attributeBase o m X.env (eval o X.env) = eval o X.env
  few : ((backTo cpos (starEach [e, f] X.env)).all (fun x => !x.1) && (backToKw cpos (keywordEach [] X.env)).all (fun x => x.1.isSome)
    && decide (([e, f] : List Expr).length + ([] : List Keyword).length + (if ([] : List Keyword).isEmpty then 0 else 1) < 30)) = true
  line : (apos.endLine == cpos.line) = true
  trees : backTo cpos (starEach [e, f] X.env) = [(false, eval e X.env), (false, eval f X.env)]
section
variable {X : Cx} {pins : List (Addr × Obj)} {σ : St} {H : Hp} {s : Shared} {a : Addr} {y d : V} {u r : Value} {o : Option V} {A : Around} {E : Value → Shared → Prop}
end
section
variable {X : Cx} {o e f : Expr} {apos cpos : Pos} {td ty tx : TE}
end
section
variable {X : Cx} {pins : List (Addr × Obj)} {σ : St} {H : Hp} {s : Shared} {a : Addr} {kvs : List (Key × V)} {A : Around} {E : Value → Shared → Prop}
end
section
variable {X : Cx} {pins : List (Addr × Obj)} {σ : St} {H : Hp} {s : Shared} {a : Addr} {y : V} {u : Value} {A : Around} {E : Value → Shared → Prop}
end
end L2
namespace Att
open PySem PySem.W PySem.Calls PyProof.Rows
theorem ints_of_wellAll {P : Params} {h : Heap} : ∀ (ns : List Int) (vs : List Value), WellAll P h vs (ns.map WData.int) → IntsAre vs ns := by
  intro ns
  induction ns with
  | nil =>
    intro vs w
    rw [List.map_nil] at w
    cases w
    exact .nil
  | cons n ns ih =>
    intro vs w
    rw [List.map_cons] at w
    cases w with
    | cons a b =>
      cases a
      exact .cons _ _ (ih _ b)
theorem script_of {l : OpenLaw} {n : Nat} (hn : l.most = some n) {P : Params} {h : Heap} {args : List WData} {vals : List Value}
    (hpre : l.row.toRowW.claim.pre args = true) (hwl : WellAll P h vals args) :
    ∃ a vs ns, vals = [Value.ref a] ∧ args = [WData.list (ns.map WData.int)] ∧ h.get? a = some { cls := .type "list", data := .seq vs.toArray } ∧ IntsAre vs ns ∧ ns.length ≤ n := by
  have hsh : WShape.hasAll [] args [.list .int] = true := (pre_splitW hpre).1
  have hc : l.pre.holds [] { args := args } = true := (pre_splitW hpre).2
  obtain ⟨d, r, rfl, h1, h2⟩ := hasAllW_cons hsh
  obtain rfl := hasAllW_nil h2
  obtain ⟨xs, rfl, h3⟩ := hasW_list h1
  obtain ⟨ns, rfl⟩ := items_int h3
  have hlen : ns.length ≤ n := by
    unfold OpenLaw.pre at hc
    have h4 : (WTm.not (.lt (.lit (.int (n : Int))) (.len (.arg 0)))).holds [] { args := [.list (ns.map .int)] } = true := by
      have h4 := (holds_andW hc).1
      rw [hn] at h4
      exact h4
    have h5 := condW_of h4 (w_not (w_lt w_lit (w_len_list (w_arg rfl))))
    rw [List.length_map] at h5
    refine Nat.le_of_not_lt fun q => ?_
    have q' : (n : Int) < ((ns.length : Nat) : Int) := by omega
    first
      | (rw [decide_eq_true q'] at h5; exact absurd h5 (by decide))
      | (simp at h5; omega)
  cases hwl with
  | cons w1 w2 =>
    cases w2
    cases w1 with
    | list ho hall => exact ⟨_, _, ns, rfl, rfl, ho, ints_of_wellAll ns _ hall, hlen⟩
theorem post_true (l : OpenLaw) (args : List WData) : l.row.toRowW.claim.post args (.bool true) args = true :=
  postW_of (r := l.row.toRowW) (X := (true == true))
    (show WShape.has [] (.bool true) .bool = true by first | rfl | decide | simp [WShape.has, WShape.arms, WShape.armsAll])
    (show (WTm.eq .res (.lit (.bool true))).value [] { args := args, res := some (.bool true), after := args } = some (.bool (true == true)) from w_eq_bool (w_res rfl) w_lit) rfl
theorem attach_call {l : OpenLaw} {n : Nat} {q : Program} {loose : List Str} {XP : (Str → Option Value) → Heap → Prop} {YP : World → Heap → Prop} {d : DefRec}
    (hn : l.most = some n) (hdf : d.params.defaults = [])
    (call : ∀ (w : World) (s₀ s₁ : Shared) (mg mb : Str → Option Value) (fa : Addr) (o : Obj) (pm cd doc : Value) (a : Addr) (vs : List Value) (ns : List Int),
      Ground q loose [] XP w s₀ mg mb s₁.heap → YP w s₁.heap →
      s₁.heap.get? fa = some o → o.data = .func (docDef d.name d.params d.body d.scope pm cd doc) → s₁.heap.CodeRec cd d.name → mg d.name = some (.ref fa) →
      s₁.heap.get? a = some { cls := .type "list", data := .seq vs.toArray } → IntsAre vs ns → ns.length ≤ n → s₁.gens = #[] →
      codeAny (model l.prog w) callerA (.call (.ref fa) ⟨[.ref a], []⟩) (fun r s' => r = .ok (.ret (.bool true)) ∧ OldK s₁.heap s'.heap ∧ s'.os = s₁.os ∧ AllBare s'.gens) s₁) :
    WalkO q loose XP YP l.row.toRowW d [] (fun f vs => PySem.call f vs) := by
  intro w s₀ s₁ mg mb G Y fa o pm cd doc dV kV ho hd hcd hD hmg hg args vals as hpre hlay hrd hwl hlo
  obtain rfl : dV = .none := Dflts.none hD hdf
  obtain rfl : kV = .none := Dflts.noKw hD
  obtain ⟨a, vs, ns, rfl, rfl, hobj, hints, hlen⟩ := script_of hn hpre hwl
  refine enter_call (codeAny_mono (call w s₀ s₁ mg mb fa o pm cd doc a vs ns G Y ho (fd_plain hd) hcd hmg hobj hints hlen hg) fun r s' hq => ?_)
  obtain ⟨rfl, h2, h3, h4⟩ := hq
  exact ⟨.inl ⟨.bool true, .bool true, [], rfl, fun _ => rfl, .bool true, post_true l _, fun _ => ⟨List.Pairwise.nil, fun _ hm => (nomatch hm)⟩⟩, h2, h3, h4⟩
section
variable {prog : Program} {w : World} {A : Around} {E : Value → Shared → Prop} {s : Shared} {K : Frag}
end
end Att
namespace L2
open PySem PySem.Spec PyProof.Rows
theorem vals_ints : ∀ {vs : List Value} {ns : List Int}, IntsAre vs ns → Vals (ns.map V.int) vs
  | _, _, .nil => .nil
  | _, _, .cons n t h => .cons ⟨t, rfl⟩ (vals_ints h)
def Only (H : Hp) : Prop := ∀ b, H b = none ∨ ∃ o xs, H b = some (.frz o (.lst xs))
theorem law_call {P : Program} {w : World} {K : PySem.W.Frag} {mg mb : Str → Option Value} {CX : CXT} {k : Nat} {fa a : Addr} {fd : FuncData} {x : Str} {sp : Sp} {s₁ : Shared} {vs : List Value} {ns : List Int}
    (KX : K.In s₁.heap) (hns : s₁.heap.Ns mainGlobals mg) (hb : s₁.heap.Ns builtinsNs mb) (hbb : ∀ x : Str, x ≠ "__name__" → mb x = bootBuiltins x) (hlim : s₁.heap.NoLimit) (hg : s₁.gens = #[])
    (ha : s₁.heap.get? a = some { cls := .type "list", data := .seq vs.toArray }) (hi : IntsAre vs ns) (hl : ns.length ≤ sizeLine) (hr : Room k callerA)
    (F : ∀ base : Heap, K.In base → base.Ns mainGlobals mg → FnOk P w K mg base CX k fa fd [x] sp) (hbind : ∀ (s : Shared) (u : Value), BindsTo s fd ⟨[u], []⟩ [(x, u)])
    (hsp : ∀ H : Hp, Only H → SqL K H a (ns.map V.int) → sp [.ref a] H (fun v _ => v = .bl true) fun _ _ _ => False)
    (hCX : ∀ H e s', CX [] H s₁ (fun _ _ _ => False) e s' → False) :
    codeAny (model P w) callerA (.call (.ref fa) ⟨[.ref a], []⟩) (fun r s' => r = .ok (.ret (.bool true)) ∧ OldK s₁.heap s'.heap ∧ s'.os = s₁.os ∧ AllBare s'.gens) s₁ := by
  have rv := vals_ints hi
  have lenV := hi.length
  -- from an abstract heap in which nothing but the script may be tracked
  have core : ∀ H : Hp, Only H → SqL K H a (ns.map V.int) → HOk P w H s₁.heap → (∀ b, H b ≠ none → b = a) → (H a ≠ none → K.lookup a = none) →
      codeAny (model P w) callerA (.call (.ref fa) ⟨[.ref a], []⟩) (fun r s' => r = .ok (.ret (.bool true)) ∧ OldK s₁.heap s'.heap ∧ s'.os = s₁.os ∧ AllBare s'.gens) s₁ := by
    intro H hO hS hok hA hK
    have base_of : ∀ {b : Addr} {o : Obj}, s₁.heap.get? b = some o → H b = none → (hidT s₁.heap H).get? b = some o := fun e n => hidT_get e n
    have noA : ∀ {b : Addr} {o : Obj} {es : Array DictEntry} {ep : Nat}, s₁.heap.get? b = some o → o.data = .dict es ep → H b = none := fun {b o es ep} e d => by
      cases q : H b with
      | none => rfl
      | some u =>
        have e' : b = a := hA b (by rw [q]; simp)
        subst e'
        rw [ha] at e; cases e
        have d' : Data.seq vs.toArray _ = Data.dict es ep := d
        cases d'
    have nsK : ∀ {b : Addr} {m : Str → Option Value}, s₁.heap.Ns b m → (hidT s₁.heap H).Ns b m := fun {b m} ⟨o, es, ep, e, d, r⟩ => ⟨o, es, ep, base_of e (noA e d), d, r⟩
    have hKb : K.In (hidT s₁.heap H) := fun b o e => base_of (KX b o e) (by
      cases q : H b with
      | none => rfl
      | some u =>
        have e' : b = a := hA b (by rw [q]; simp)
        subst e'
        rw [hK (by rw [q]; simp)] at e; cases e)
    have hM : Mod K mg (hidT s₁.heap H) := ⟨hKb, nsK hns, ⟨mb, nsK hb, hbb⟩, let ⟨mc, h1, h2⟩ := hlim; ⟨mc, nsK h1, h2⟩⟩
    have e0 : Env0 P w K mg (hidT s₁.heap H) callerA [] s₁ H := ⟨rfl, hM, fun b o e => of_hidT e, Nat.le_of_eq (hidT_size _ _), trivial, fun b hb => absurd (show b ∈ ([] : List Addr) from hb) (by simp), hok, .of_eq hg⟩
    refine codeAny_mono ((F _ hKb (nsK hns)).run callerA [] s₁ H ⟨[.ref a], []⟩ [.ref a] [.ref a] _ _ hr e0 (hbind s₁ (.ref a)) (.cons rfl .nil) (hsp H hO hS)) fun r s' h => ?_
    cases r with
    | error e => exact (hCX H e s' h).elim
    | ok fl =>
      cases fl with
      | next => exact False.elim h
      | brk => exact False.elim h
      | cont => exact False.elim h
      | ret u =>
        obtain ⟨v, H', os, bare, un, hok', r', q⟩ := h
        have q' : v = .bl true := q
        subst q'
        obtain rfl : u = Value.bool true := r'
        refine ⟨rfl, OldK.of_keep fun b o e => ?_, os, bare⟩
        cases q : H b with
        | none => exact un.keep b o e q (by intro z; exact absurd (show b ∈ ([] : List Addr) from z) (by simp)) (by simp)
        | some u =>
          rcases hO b with z | ⟨ob, xs, z⟩
          · rw [q] at z; cases z
          · have z2 := un.frzs b ob _ z
            obtain ⟨e1, _⟩ := hok b _ z
            obtain ⟨e2, _⟩ := hok' b _ z2
            rw [e] at e1; cases e1
            exact e2
  cases hk : K.lookup a with
  | some o =>
    -- the script is one of the module's own objects
    have e := KX a o hk
    rw [ha] at e
    cases e
    refine core (fun _ => none) (fun _ => .inl rfl) (.inr ⟨_, vs.toArray, _, hk, rfl, rfl, rfl, by rw [List.size_toArray, lenV]; exact hl, by simpa using rv⟩) (fun b u z => by have z' : (none : Option HO) = some u := z; cases z') (fun b z => absurd rfl z) fun z => absurd rfl z
  | none =>
    refine core (fun b => if b = a then some (.frz { cls := .type "list", data := .seq vs.toArray } (.lst (ns.map V.int))) else none) (fun b => ?_) (.inl (.inr ⟨{ cls := .type "list", data := .seq vs.toArray }, if_pos rfl⟩)) (fun b u z => ?_) (fun b z => ?_) fun _ => hk
    · by_cases hb : b = a
      · exact .inr ⟨_, _, if_pos hb⟩
      · exact .inl (if_neg hb)
    · by_cases hb : b = a
      · have z' := (if_pos hb).symm.trans z
        cases z'
        subst hb
        exact ⟨ha, by rw [List.length_map]; exact hl, vs, _, rv, ha⟩
      · have z' := (if_neg hb).symm.trans z
        cases z'
    · by_cases hb : b = a
      · exact hb
      · exact absurd (if_neg hb) z
end L2
namespace L2
open PySem PySem.Spec PyProof.Rows
end L2
namespace L2
open PySem PySem.Spec PyProof.Rows
abbrev E0 : XK := fun _ _ _ => False
structure Fun (K : PySem.W.Frag) (x qual : Str) (st : Stmt) (f : Addr) (fd : FuncData) : Prop where
  ex : ∃ (oc : Value) (od : Option Addr) (kV doc pm : Value) (an : Option Addr) (cdv ct : Value) (osl : Array (Option Value)),
    fd = PySem.W.fnOf x qual (defArgs st) (defBody st) (defScope st) .none kV doc pm an cdv ct ∧ K.lookup f = some ⟨oc, od, .func fd, osl⟩ ∧ PySem.W.codeIn K cdv qual = true
  kp : PySem.W.keepIn K (.ref f) = true
section
variable {P : Program} {w : World} {K : PySem.W.Frag} {mg : Str → Option Value} {base : Heap}
theorem Fun.binds {x qual : Str} {st : Stmt} {f : Addr} {fd : FuncData} {ps : List Str} (F : Fun K x qual st f fd)
    (h : ∀ (kV doc pm : Value) (an : Option Addr) (cdv ct : Value) (us : List Value), us.length = ps.length → bindArgs (PySem.W.fnOf x qual (defArgs st) (defBody st) (defScope st) .none kV doc pm an cdv ct) ⟨us, []⟩ = pure (ps.zip us)) : Binds K fd ps [] := by
  obtain ⟨oc, od, kV, doc, pm, an, cdv, ct, osl, rfl, lk, hcd⟩ := F.ex
  exact .all (h kV doc pm an cdv ct)
theorem fun_mk {x qual : Str} {st : Stmt} {f : Addr} {oc : Value} {od an : Option Addr} {osl : Array (Option Value)} {kV doc pm cdv ct : Value} (l : K.lookup f = some ⟨oc, od, .func (PySem.W.fnOf x qual (defArgs st) (defBody st) (defScope st) .none kV doc pm an cdv ct), osl⟩)
    (c : PySem.W.codeIn K cdv qual = true) (k : PySem.W.keepIn K (.ref f) = true) : Fun K x qual st f (PySem.W.fnOf x qual (defArgs st) (defBody st) (defScope st) .none kV doc pm an cdv ct) := ⟨⟨oc, od, kV, doc, pm, an, cdv, ct, osl, rfl, l, c⟩, k⟩
end
section
variable {X : Cx}
end
def Same (H H' : Hp) : Prop := ∀ b o, H b = some o → H' b = some o
theorem Same.refl (H : Hp) : Same H H := fun _ _ h => h
theorem Same.trans {H H1 H2 : Hp} (a : Same H H1) (b : Same H1 H2) : Same H H2 := fun c o h => b c o (a c o h)
section
variable {X : Cx}
end
section
variable {κ : Type} [DecidableEq κ]
end
end L2
set_option maxHeartbeats 4000000
theorem List.reverseRecOn' {α : Type} {motive : List α → Prop} (l : List α) (nil : motive []) (snoc : ∀ xs x, motive xs → motive (xs ++ [x])) : motive l := by
  have : ∀ l : List α, motive l.reverse := by
    intro l
    induction l with
    | nil => exact nil
    | cons x xs ih => rw [List.reverse_cons]; exact snoc _ _ ih
  simpa using this l.reverse
namespace Mi
open PySem L2
inductive Tg where
  | f | o | b
  deriving DecidableEq
inductive D where
  | non | bl (b : Bool) | int (i : Int) | str (x : Str)
  | lst (t : Tg) (xs : List D) | tup (xs : List D)
  | dic (t : Tg) (kvs : List (List Key × D))
  | ins (t : Tg) (C : Addr) (fs : List (Str × D))
  | exc (C : Value)
  | scr (ns : List Int)
  | slf (a C : Addr) (fs : List (Str × D))
namespace D
def tag : D → Tg
  | .lst t _ => t
  | .dic t _ => t
  | .ins t _ _ => t
  | .slf _ _ _ => .o
  | _ => .f
def rd : D → D
  | .lst .o xs => .lst .b xs
  | .dic .o xs => .dic .b xs
  | .ins .o C fs => .ins .b C fs
  | .slf _ C fs => .ins .b C fs
  | d => d
mutual
def fz : D → D
  | .lst _ xs => .lst .f (fzs xs)
  | .dic _ kvs => .dic .f (fzk kvs)
  | .tup xs => .tup (fzs xs)
  | .ins _ C fs => .ins .f C fs
  | .slf _ C fs => .ins .f C fs
  | d => d
def fzs : List D → List D
  | [] => []
  | x :: xs => fz x :: fzs xs
def fzk : List (List Key × D) → List (List Key × D)
  | [] => []
  | (k, x) :: xs => (k, fz x) :: fzk xs
end
def atom : D → Bool
  | .non | .bl _ | .int _ | .str _ => true
  | _ => false
theorem fzs_map : ∀ xs : List D, fzs xs = xs.map fz := by
  intro lc
  cases lc with
  | nil =>
    simp [fzs]
  | cons x xs =>
    simp [fzs, fzs_map xs]
end D
mutual
inductive Rep (H : Hp) : V → D → Prop
  | non : Rep H .non .non
  | bl {b} : Rep H (.bl b) (.bl b)
  | int {i} : Rep H (.int i) (.int i)
  | str {x} : Rep H (.str x) (.str x)
  | lst {a xs ds t} : H a = some (.lst xs) → Reps H xs ds → Rep H (.ref a) (.lst t ds)
  | tup {a xs ds} : H a = some (.tup xs) → Reps H xs ds → Rep H (.ref a) (.tup ds)
  | dic {a kvs ks t} : H a = some (.dT kvs) → RepK H kvs ks → Rep H (.ref a) (.dic t ks)
  | ins {a C dx fs ds t} : H a = some (.ins C dx fs) → RepF H fs ds → Rep H (.ref a) (.ins t C ds)
  | scr {a o ns} : H a = some (.frz o (.lst (ns.map V.int))) → Rep H (.ref a) (.scr ns)
  | slf {a C dx fs ds} : H a = some (.ins C dx fs) → RepF H fs ds → Rep H (.ref a) (.slf a C ds)
  | exc {a C φ} : H a = some (.ext φ) → (∀ h, φ h → ∃ oe, h.get? a = some oe ∧ oe.cls = C) → Rep H (.ref a) (.exc C)
inductive Reps (H : Hp) : List V → List D → Prop
  | nil : Reps H [] []
  | cons {v d vs ds} : Rep H v d → Reps H vs ds → Reps H (v :: vs) (d :: ds)
inductive RepK (H : Hp) : List (List Key × V) → List (List Key × D) → Prop
  | nil : RepK H [] []
  | cons {k v d vs ds} : Rep H v d → RepK H vs ds → RepK H ((k, v) :: vs) ((k, d) :: ds)
inductive RepF (H : Hp) : List (Str × V) → List (Str × D) → Prop
  | nil : RepF H [] []
  | cons {k v d vs ds} : Rep H v d → RepF H vs ds → RepF H ((k, v) :: vs) ((k, d) :: ds)
end
mutual
theorem Rep.mono {H H' : Hp} (s : Same H H') : ∀ {v d}, Rep H v d → Rep H' v d := by
  intro _ _ hc
  cases hc with
  | non =>
    exact .non
  | bl =>
    exact .bl
  | int =>
    exact .int
  | str =>
    exact .str
  | lst h r =>
    exact .lst (s _ _ h) (Reps.mono s r)
  | scr h =>
    exact .scr (s _ _ h)
  | slf h r =>
    exact .slf (s _ _ h) (RepF.mono s r)
  | tup h r =>
    exact .tup (s _ _ h) (Reps.mono s r)
  | dic h r =>
    exact .dic (s _ _ h) (RepK.mono s r)
  | ins h r =>
    exact .ins (s _ _ h) (RepF.mono s r)
  | exc h q =>
    exact .exc (s _ _ h) q
theorem Reps.mono {H H' : Hp} (s : Same H H') : ∀ {v d}, Reps H v d → Reps H' v d := by
  intro _ _ hc
  cases hc with
  | nil =>
    exact .nil
  | cons h r =>
    exact .cons (Rep.mono s h) (Reps.mono s r)
theorem RepK.mono {H H' : Hp} (s : Same H H') : ∀ {v d}, RepK H v d → RepK H' v d := by
  intro _ _ hc
  cases hc with
  | nil =>
    exact .nil
  | cons h r =>
    exact .cons (Rep.mono s h) (RepK.mono s r)
theorem RepF.mono {H H' : Hp} (s : Same H H') : ∀ {v d}, RepF H v d → RepF H' v d := by
  intro _ _ hc
  cases hc with
  | nil =>
    exact .nil
  | cons h r =>
    exact .cons (Rep.mono s h) (RepF.mono s r)
end
mutual
theorem Rep.fz {H : Hp} : ∀ {v d}, Rep H v d → Rep H v d.fz := by
  intro _ _ hc
  cases hc with
  | non =>
    exact .non
  | bl =>
    exact .bl
  | int =>
    exact .int
  | str =>
    exact .str
  | lst h r =>
    exact .lst h (Reps.fz r)
  | tup h r =>
    exact .tup h (Reps.fz r)
  | dic h r =>
    exact .dic h (RepK.fz r)
  | ins h r =>
    exact .ins h r
  | scr h =>
    exact .scr h
  | slf h r =>
    exact .ins h r
  | exc h q =>
    exact .exc h q
theorem Reps.fz {H : Hp} : ∀ {v d}, Reps H v d → Reps H v (D.fzs d) := by
  intro _ _ hc
  cases hc with
  | nil =>
    exact .nil
  | cons h r =>
    exact .cons (Rep.fz h) (Reps.fz r)
theorem RepK.fz {H : Hp} : ∀ {v d}, RepK H v d → RepK H v (D.fzk d) := by
  intro _ _ hc
  cases hc with
  | nil =>
    exact .nil
  | cons h r =>
    exact .cons (Rep.fz h) (RepK.fz r)
end
theorem Reps.length {H : Hp} : ∀ {vs ds}, Reps H vs ds → vs.length = ds.length := by
  intro _ _ hc
  cases hc with
  | nil =>
    exact rfl
  | cons _ r =>
    simp [Reps.length r]
theorem Reps.get {H : Hp} : ∀ {vs ds} {i : Nat} {d}, Reps H vs ds → ds[i]? = some d → ∃ v, vs[i]? = some v ∧ Rep H v d := by
  intro _ _ ic d hc e
  cases hc with
  | nil =>
    simp at e
  | cons h r =>
    cases ic with
    | zero =>
      simp at e; subst e; exact ⟨_, rfl, h⟩
    | succ i =>
      simpa using Reps.get (i := i) (d := d) r (by simpa using e)
theorem Reps.append {H : Hp} : ∀ {vs ds us es}, Reps H vs ds → Reps H us es → Reps H (vs ++ us) (ds ++ es) := by
  intro _ _ _ _ hc q
  cases hc with
  | nil =>
    exact q
  | cons h r =>
    exact .cons h (Reps.append r q)
mutual
inductive RepO (Hf H : Hp) : List Addr → V → D → Prop
  | fz {v d} : Rep Hf v d → d.tag = .f → RepO Hf H [] v d
  | lst {a xs fp ds} : H a = some (.lst xs) → RepOs Hf H fp xs ds → RepO Hf H (a :: fp) (.ref a) (.lst .o ds)
  | dic {a fp kvs ks} : H a = some (.dT kvs) → RepOk Hf H fp kvs ks → RepO Hf H (a :: fp) (.ref a) (.dic .o ks)
  | slf {a C dx fs ks} : H a = some (.ins C dx fs) → H dx = some (.own a) → RepF Hf fs ks → RepO Hf H [a, dx] (.ref a) (.slf a C ks)
inductive RepOs (Hf H : Hp) : List Addr → List V → List D → Prop
  | nil : RepOs Hf H [] [] []
  | cons {fp v d fps vs ds} : RepO Hf H fp v d → RepOs Hf H fps vs ds → RepOs Hf H (fp ++ fps) (v :: vs) (d :: ds)
inductive RepOk (Hf H : Hp) : List Addr → List (List Key × V) → List (List Key × D) → Prop
  | nil : RepOk Hf H [] [] []
  | cons {k fp v d fps vs ds} : RepO Hf H fp v d → RepOk Hf H fps vs ds → RepOk Hf H (fp ++ fps) ((k, v) :: vs) ((k, d) :: ds)
end
mutual
inductive RepV (Hf H : Hp) : V → D → Prop
  | fz {v d} : Rep Hf v d → d.tag = .f → RepV Hf H v d
  | lst {a xs ds t} : t ≠ .f → H a = some (.lst xs) → RepVs Hf H xs ds → RepV Hf H (.ref a) (.lst t ds)
  | dic {a kvs ks t} : t ≠ .f → H a = some (.dT kvs) → RepVk Hf H kvs ks → RepV Hf H (.ref a) (.dic t ks)
  | ins {a C dx fs ks t} : t ≠ .f → H a = some (.ins C dx fs) → RepF Hf fs ks → RepV Hf H (.ref a) (.ins t C ks)
  | slf {a C dx fs ks} : H a = some (.ins C dx fs) → RepF Hf fs ks → RepV Hf H (.ref a) (.slf a C ks)
inductive RepVs (Hf H : Hp) : List V → List D → Prop
  | nil : RepVs Hf H [] []
  | cons {v d vs ds} : RepV Hf H v d → RepVs Hf H vs ds → RepVs Hf H (v :: vs) (d :: ds)
inductive RepVk (Hf H : Hp) : List (List Key × V) → List (List Key × D) → Prop
  | nil : RepVk Hf H [] []
  | cons {k v d vs ds} : RepV Hf H v d → RepVk Hf H vs ds → RepVk Hf H ((k, v) :: vs) ((k, d) :: ds)
end
mutual
theorem RepO.v {Hf H : Hp} : ∀ {fp v d}, RepO Hf H fp v d → RepV Hf H v d := by
  intro _ _ _ hc
  cases hc with
  | fz h e =>
    exact .fz h e
  | lst h r =>
    exact .lst (by decide) h (RepOs.v r)
  | dic h r =>
    exact .dic (by decide) h (RepOk.v r)
  | slf h _ r =>
    exact .slf h r
theorem RepOs.v {Hf H : Hp} : ∀ {fp v d}, RepOs Hf H fp v d → RepVs Hf H v d := by
  intro _ _ _ hc
  cases hc with
  | nil =>
    exact .nil
  | cons h r =>
    exact .cons (RepO.v h) (RepOs.v r)
theorem RepOk.v {Hf H : Hp} : ∀ {fp v d}, RepOk Hf H fp v d → RepVk Hf H v d := by
  intro _ _ _ hc
  cases hc with
  | nil =>
    exact .nil
  | cons h r =>
    exact .cons (RepO.v h) (RepOk.v r)
end
mutual
theorem RepV.rep {Hf H : Hp} (s : Same Hf H) : ∀ {v d}, RepV Hf H v d → Rep H v d := by
  intro _ _ hc
  cases hc with
  | fz h _ =>
    exact h.mono s
  | lst _ h r =>
    exact .lst h (RepVs.rep s r)
  | dic _ h r =>
    exact .dic h (RepVk.rep s r)
  | ins _ h r =>
    exact .ins h (r.mono s)
  | slf h r =>
    exact .slf h (r.mono s)
theorem RepVs.rep {Hf H : Hp} (s : Same Hf H) : ∀ {v d}, RepVs Hf H v d → Reps H v d := by
  intro _ _ hc
  cases hc with
  | nil =>
    exact .nil
  | cons h r =>
    exact .cons (RepV.rep s h) (RepVs.rep s r)
theorem RepVk.rep {Hf H : Hp} (s : Same Hf H) : ∀ {v d}, RepVk Hf H v d → RepK H v d := by
  intro _ _ hc
  cases hc with
  | nil =>
    exact .nil
  | cons h r =>
    exact .cons (RepV.rep s h) (RepVk.rep s r)
end
mutual
theorem RepO.keep {Hf H Hf' H' : Hp} (s : Same Hf Hf') : ∀ {fp v d}, RepO Hf H fp v d → (∀ a o, a ∈ fp → H a = some o → H' a = some o) → RepO Hf' H' fp v d := by
  intro _ _ _ hc k
  cases hc with
  | fz h e =>
    exact .fz (h.mono s) e
  | lst h r =>
    exact .lst (k _ _ List.mem_cons_self h) (RepOs.keep s r fun a o m => k a o (List.mem_cons_of_mem _ m))
  | dic h r =>
    exact .dic (k _ _ List.mem_cons_self h) (RepOk.keep s r fun a o m => k a o (List.mem_cons_of_mem _ m))
  | slf h q r =>
    exact .slf (k _ _ List.mem_cons_self h) (k _ _ (List.mem_cons_of_mem _ List.mem_cons_self) q) (r.mono s)
theorem RepOs.keep {Hf H Hf' H' : Hp} (s : Same Hf Hf') : ∀ {fp v d}, RepOs Hf H fp v d → (∀ a o, a ∈ fp → H a = some o → H' a = some o) → RepOs Hf' H' fp v d := by
  intro _ _ _ hc k
  cases hc with
  | nil =>
    exact .nil
  | cons h r =>
    exact .cons (RepO.keep s h fun a o m => k a o (List.mem_append_left _ m)) (RepOs.keep s r fun a o m => k a o (List.mem_append_right _ m))
theorem RepOk.keep {Hf H Hf' H' : Hp} (s : Same Hf Hf') : ∀ {fp v d}, RepOk Hf H fp v d → (∀ a o, a ∈ fp → H a = some o → H' a = some o) → RepOk Hf' H' fp v d := by
  intro _ _ _ hc k
  cases hc with
  | nil =>
    exact .nil
  | cons h r =>
    exact .cons (RepO.keep s h fun a o m => k a o (List.mem_append_left _ m)) (RepOk.keep s r fun a o m => k a o (List.mem_append_right _ m))
end
mutual
theorem RepV.mono {Hf H Hf' H' : Hp} (s : Same Hf Hf') (s' : Same H H') : ∀ {v d}, RepV Hf H v d → RepV Hf' H' v d := by
  intro _ _ hc
  cases hc with
  | fz h e =>
    exact .fz (h.mono s) e
  | lst t h r =>
    exact .lst t (s' _ _ h) (RepVs.mono s s' r)
  | dic t h r =>
    exact .dic t (s' _ _ h) (RepVk.mono s s' r)
  | ins t h r =>
    exact .ins t (s' _ _ h) (r.mono s)
  | slf h r =>
    exact .slf (s' _ _ h) (r.mono s)
theorem RepVs.mono {Hf H Hf' H' : Hp} (s : Same Hf Hf') (s' : Same H H') : ∀ {v d}, RepVs Hf H v d → RepVs Hf' H' v d := by
  intro _ _ hc
  cases hc with
  | nil =>
    exact .nil
  | cons h r =>
    exact .cons (RepV.mono s s' h) (RepVs.mono s s' r)
theorem RepVk.mono {Hf H Hf' H' : Hp} (s : Same Hf Hf') (s' : Same H H') : ∀ {v d}, RepVk Hf H v d → RepVk Hf' H' v d := by
  intro _ _ hc
  cases hc with
  | nil =>
    exact .nil
  | cons h r =>
    exact .cons (RepV.mono s s' h) (RepVk.mono s s' r)
end
mutual
theorem RepO.there {Hf H : Hp} : ∀ {fp v d}, RepO Hf H fp v d → ∀ a ∈ fp, ∃ o, H a = some o := by
  intro _ _ _ hc a m
  cases hc with
  | fz _ _ =>
    simp at m
  | lst h r =>
    rcases List.mem_cons.mp m with e | m
    · subst e; exact ⟨_, h⟩
    · exact RepOs.there r a m
  | dic h r =>
    rcases List.mem_cons.mp m with e | m
    · subst e; exact ⟨_, h⟩
    · exact RepOk.there r a m
  | slf h q _ =>
    simp at m
    rcases m with m | m
    · subst m; exact ⟨_, h⟩
    · subst m; exact ⟨_, q⟩
theorem RepOs.there {Hf H : Hp} : ∀ {fp v d}, RepOs Hf H fp v d → ∀ a ∈ fp, ∃ o, H a = some o := by
  intro _ _ _ hc a m
  cases hc with
  | nil =>
    simp at m
  | cons h r =>
    exact (List.mem_append.mp m).elim (RepO.there h a) (RepOs.there r a)
theorem RepOk.there {Hf H : Hp} : ∀ {fp v d}, RepOk Hf H fp v d → ∀ a ∈ fp, ∃ o, H a = some o := by
  intro _ _ _ hc a m
  cases hc with
  | nil =>
    simp at m
  | cons h r =>
    exact (List.mem_append.mp m).elim (RepO.there h a) (RepOk.there r a)
end
theorem RepVs.get {Hf H : Hp} : ∀ {vs ds} {i : Nat} {d}, RepVs Hf H vs ds → ds[i]? = some d → ∃ v, vs[i]? = some v ∧ RepV Hf H v d := by
  intro _ _ ic d hc e
  cases hc with
  | nil =>
    simp at e
  | cons h r =>
    cases ic with
    | zero =>
      simp at e; subst e; exact ⟨_, rfl, h⟩
    | succ i =>
      simpa using RepVs.get (i := i) (d := d) r (by simpa using e)
theorem RepOs.length {Hf H : Hp} : ∀ {fp vs ds}, RepOs Hf H fp vs ds → vs.length = ds.length := by
  intro _ _ _ hc
  cases hc with
  | nil =>
    exact rfl
  | cons _ r =>
    simp [RepOs.length r]
theorem RepOs.append {Hf H : Hp} : ∀ {fp vs ds fq us es}, RepOs Hf H fp vs ds → RepOs Hf H fq us es → RepOs Hf H (fp ++ fq) (vs ++ us) (ds ++ es) := by
  intro _ _ _ _ _ _ hc q
  cases hc with
  | nil =>
    exact q
  | cons h r =>
    rw [List.append_assoc]; exact .cons h (RepOs.append r q)
def mix (Hf H : Hp) (fp : List Addr) : Hp := fun a => if a ∈ fp then H a else Hf a
theorem mix_in {Hf H : Hp} {fp : List Addr} {a : Addr} (h : a ∈ fp) : mix Hf H fp a = H a := by unfold mix; rw [if_pos h]
theorem mix_out {Hf H : Hp} {fp : List Addr} {a : Addr} (h : a ∉ fp) : mix Hf H fp a = Hf a := by unfold mix; rw [if_neg h]
theorem mix_same {Hf H : Hp} {fp : List Addr} (s : Same Hf H) : Same Hf (mix Hf H fp) := fun a o e => by
  unfold mix
  by_cases h : a ∈ fp
  · rw [if_pos h]; exact s a o e
  · rw [if_neg h]; exact e
theorem mix_le {Hf H : Hp} {fp : List Addr} (s : Same Hf H) : Same (mix Hf H fp) H := fun a o e => by
  unfold mix at e
  by_cases h : a ∈ fp
  · rw [if_pos h] at e; exact e
  · rw [if_neg h] at e; exact s a o e
mutual
theorem RepO.froz {Hf H : Hp} (s : Same Hf H) : ∀ {fp v d} {fq : List Addr}, RepO Hf H fp v d → (∀ a ∈ fp, a ∈ fq) → Rep (mix Hf H fq) v d.fz := by
  intro _ _ _ _ hc m
  cases hc with
  | fz h _ =>
    exact (h.mono (mix_same s)).fz
  | lst h r =>
    exact .lst (by rw [mix_in (m _ List.mem_cons_self)]; exact h) (RepOs.froz s r fun a q => m a (List.mem_cons_of_mem _ q))
  | dic h r =>
    exact .dic (by rw [mix_in (m _ List.mem_cons_self)]; exact h) (RepOk.froz s r fun a q => m a (List.mem_cons_of_mem _ q))
  | slf h q r =>
    exact .ins (by rw [mix_in (m _ List.mem_cons_self)]; exact h) (r.mono (mix_same s))
theorem RepOs.froz {Hf H : Hp} (s : Same Hf H) : ∀ {fp v d} {fq : List Addr}, RepOs Hf H fp v d → (∀ a ∈ fp, a ∈ fq) → Reps (mix Hf H fq) v (D.fzs d) := by
  intro _ _ _ _ hc m
  cases hc with
  | nil =>
    exact .nil
  | cons h r =>
    exact .cons (RepO.froz s h fun a q => m a (List.mem_append_left _ q)) (RepOs.froz s r fun a q => m a (List.mem_append_right _ q))
theorem RepOk.froz {Hf H : Hp} (s : Same Hf H) : ∀ {fp v d} {fq : List Addr}, RepOk Hf H fp v d → (∀ a ∈ fp, a ∈ fq) → RepK (mix Hf H fq) v (D.fzk d) := by
  intro _ _ _ _ hc m
  cases hc with
  | nil =>
    exact .nil
  | cons h r =>
    exact .cons (RepO.froz s h fun a q => m a (List.mem_append_left _ q)) (RepOk.froz s r fun a q => m a (List.mem_append_right _ q))
end
inductive Own (Hf H : Hp) : List Addr → List (Option V) → List (Option D) → Prop
  | nil : Own Hf H [] [] []
  | skip {fp v vs ds} : Own Hf H fp vs ds → Own Hf H fp (v :: vs) (none :: ds)
  | cons {fp fq v d vs ds} : RepO Hf H fp v d → Own Hf H fq vs ds → Own Hf H (fp ++ fq) (some v :: vs) (some d :: ds)
  | brw {fp v d vs ds} : d.tag = .b → RepV Hf H v d → Own Hf H fp vs ds → Own Hf H fp (some v :: vs) (some d :: ds)
theorem Own.length {Hf H : Hp} : ∀ {fp vs ds}, Own Hf H fp vs ds → vs.length = ds.length := by
  intro _ _ _ hc
  cases hc with
  | nil =>
    exact rfl
  | skip r =>
    simp [Own.length r]
  | cons _ r =>
    simp [Own.length r]
  | brw _ _ r =>
    simp [Own.length r]
theorem Own.there {Hf H : Hp} : ∀ {fp vs ds}, Own Hf H fp vs ds → ∀ a ∈ fp, ∃ o, H a = some o := by
  intro _ _ _ hc a m
  cases hc with
  | nil =>
    simp at m
  | skip r =>
    exact Own.there r a m
  | cons h r =>
    exact (List.mem_append.mp m).elim (h.there a) (Own.there r a)
  | brw _ _ r =>
    exact Own.there r a m
def noB (ds : List (Option D)) : Prop := ∀ d, some d ∈ ds → d.tag ≠ .b
theorem Own.keep {Hf H Hf' H' : Hp} (s : Same Hf Hf') : ∀ {fp vs ds}, Own Hf H fp vs ds → noB ds → (∀ a o, a ∈ fp → H a = some o → H' a = some o) → Own Hf' H' fp vs ds := by
  intro _ _ _ hc n k
  cases hc with
  | nil =>
    exact .nil
  | skip r =>
    exact .skip (Own.keep s r (fun d m => n d (List.mem_cons_of_mem _ m)) k)
  | cons h r =>
    exact .cons (h.keep s fun a o m => k a o (List.mem_append_left _ m)) (Own.keep s r (fun d m => n d (List.mem_cons_of_mem _ m)) fun a o m => k a o (List.mem_append_right _ m))
  | brw t h r =>
    exact absurd t (n _ List.mem_cons_self)
theorem Own.mono {Hf H Hf' H' : Hp} (s : Same Hf Hf') (s' : Same H H') : ∀ {fp vs ds}, Own Hf H fp vs ds → Own Hf' H' fp vs ds := by
  intro _ _ _ hc
  cases hc with
  | nil =>
    exact .nil
  | skip r =>
    exact .skip (Own.mono s s' r)
  | cons h r =>
    exact .cons (h.keep s fun a o _ => s' a o) (Own.mono s s' r)
  | brw t h r =>
    exact .brw t (h.mono s s') (Own.mono s s' r)
theorem Own.take {Hf H : Hp} : ∀ {fp vs ds} {i : Nat} {d}, Own Hf H fp vs ds → ds[i]? = some (some d) → d.tag ≠ .b →
    ∃ v fp1 fp2, vs[i]? = some (some v) ∧ RepO Hf H fp1 v d ∧ Own Hf H fp2 vs (ds.set i none) ∧ fp.Perm (fp1 ++ fp2) := by
  intro _ _ _ ic d hc h n
  cases hc with
  | nil =>
    simp at h
  | skip r =>
    cases ic with
    | zero =>
      simp at h
    | succ i =>
      obtain ⟨v, fp1, fp2, e, q, r', p⟩ := Own.take (i := i) r (by simpa using h) n
      exact ⟨v, fp1, fp2, by simpa using e, q, .skip r', p⟩
  | @cons f1 _ _ _ _ _ q0 r =>
    cases ic with
    | zero =>
      simp at h; subst h
      exact ⟨_, _, _, rfl, q0, .skip r, .refl _⟩
    | succ i =>
      obtain ⟨v, fp1, fp2, e, q, r', p⟩ := Own.take (i := i) r (by simpa using h) n
      refine ⟨v, fp1, f1 ++ fp2, by simpa using e, q, .cons q0 r', ?_⟩
      refine (List.Perm.append_left f1 p).trans ?_
      rw [← List.append_assoc, ← List.append_assoc]
      exact List.Perm.append_right _ List.perm_append_comm
  | brw t q0 r =>
    cases ic with
    | zero =>
      simp at h; subst h
      exact absurd t n
    | succ i =>
      obtain ⟨v, fp1, fp2, e, q, r', p⟩ := Own.take (i := i) r (by simpa using h) n
      exact ⟨v, fp1, fp2, by simpa using e, q, .brw t q0 r', p⟩
theorem Own.getV {Hf H : Hp} : ∀ {fp vs ds} {i : Nat} {d}, Own Hf H fp vs ds → ds[i]? = some (some d) → ∃ v, vs[i]? = some (some v) ∧ RepV Hf H v d := by
  intro _ _ _ ic d hc h
  cases hc with
  | nil =>
    simp at h
  | skip r =>
    cases ic with
    | zero =>
      simp at h
    | succ i =>
      simpa using Own.getV (i := i) r (by simpa using h)
  | cons q r =>
    cases ic with
    | zero =>
      simp at h; subst h
      exact ⟨_, rfl, q.v⟩
    | succ i =>
      simpa using Own.getV (i := i) r (by simpa using h)
  | brw t q r =>
    cases ic with
    | zero =>
      simp at h; subst h
      exact ⟨_, rfl, q⟩
    | succ i =>
      simpa using Own.getV (i := i) r (by simpa using h)
theorem Own.put {Hf H : Hp} {fp1 : List Addr} {v : V} {d : D} (q : RepO Hf H fp1 v d) : ∀ {fp vs ds} {i : Nat}, Own Hf H fp vs ds → i < ds.length → 
    ∃ fp', Own Hf H fp' (vs.set i (some v)) (ds.set i (some d)) ∧ ∃ fp2, fp'.Perm (fp1 ++ fp2) ∧ fp2.Sublist fp := by
  intro _ _ _ ic hc h
  cases hc with
  | nil =>
    simp at h
  | skip r =>
    cases ic with
    | zero =>
      exact ⟨_, .cons q r, _, .refl _, .refl _⟩
    | succ i =>
      obtain ⟨fp', o, fp2, p, s⟩ := Own.put (i := i) q r (by simpa using h)
      exact ⟨fp', .skip o, fp2, p, s⟩
  | @cons f1 _ _ _ _ _ q0 r =>
    cases ic with
    | zero =>
      exact ⟨_, .cons q r, _, .refl _, List.sublist_append_right _ _⟩
    | succ i =>
      obtain ⟨fp', o, fp2, p, s⟩ := Own.put (i := i) q r (by simpa using h)
      refine ⟨f1 ++ fp', .cons q0 o, f1 ++ fp2, ?_, s.append_left f1⟩
      refine (List.Perm.append_left f1 p).trans ?_
      rw [← List.append_assoc, ← List.append_assoc]
      exact List.Perm.append_right _ List.perm_append_comm
  | brw t q0 r =>
    cases ic with
    | zero =>
      exact ⟨_, .cons q r, _, .refl _, .refl _⟩
    | succ i =>
      obtain ⟨fp', o, fp2, p, s⟩ := Own.put (i := i) q r (by simpa using h)
      exact ⟨fp', .brw t q0 o, fp2, p, s⟩
structure Fine (Hs H0 Hf H : Hp) (fp : List Addr) : Prop where
  nd : fp.Nodup
  own : ∀ a ∈ fp, Hf a = none ∧ H0 a = none
  fh : Same Hf H
  zh : Same H0 H
  sf : Same Hs Hf
  new : ∀ a o, Hf a = some o → (∃ o', Hs a = some o') ∨ H0 a = none
def SR (Hs H0 H : Hp) (vs : List (Option V)) (ds : List (Option D)) : Prop := ∃ Hf fp, Own Hf H fp vs ds ∧ Fine Hs H0 Hf H fp
theorem Fine.sub {Hs H0 Hf H : Hp} {fp fq : List Addr} (F : Fine Hs H0 Hf H fp) (nd : fq.Nodup) (s : ∀ a ∈ fq, a ∈ fp) : Fine Hs H0 Hf H fq :=
  ⟨nd, fun a m => F.own a (s a m), F.fh, F.zh, F.sf, F.new⟩
theorem Fine.subl {Hs H0 Hf H : Hp} {fp fq : List Addr} (F : Fine Hs H0 Hf H fp) (s : fq.Sublist fp) : Fine Hs H0 Hf H fq := F.sub (F.nd.sublist s) fun _ m => s.subset m
theorem Fine.perm {Hs H0 Hf H : Hp} {fp fq : List Addr} (F : Fine Hs H0 Hf H fp) (p : fq.Perm fp) : Fine Hs H0 Hf H fq := F.sub (p.nodup_iff.mpr F.nd) fun _ m => p.mem_iff.mp m
theorem Fine.froz {Hs H0 Hf H : Hp} {fp fq : List Addr} (F : Fine Hs H0 Hf H (fp ++ fq)) : Fine Hs H0 (mix Hf H fp) H fq :=
  ⟨(List.nodup_append.mp F.nd).2.1, fun a m => ⟨by
    have hn : a ∉ fp := fun z => (List.nodup_append.mp F.nd).2.2 a z a m rfl
    rw [mix_out hn]; exact (F.own a (List.mem_append_right _ m)).1, (F.own a (List.mem_append_right _ m)).2⟩, mix_le F.fh, F.zh, F.sf.trans (mix_same F.fh), fun a o e => by
    by_cases h : a ∈ fp
    · exact .inr (F.own a (List.mem_append_left _ h)).2
    · rw [mix_out h] at e; exact F.new a o e⟩
section
variable {Hs H0 H : Hp} {vs : List (Option V)} {ds : List (Option D)} {v : V} {d : D}
theorem SR.same (S : SR Hs H0 H vs ds) : Same H0 H := let ⟨_, _, _, F⟩ := S; F.zh
theorem SR.drop {v : Option V} {d : Option D} (S : SR Hs H0 H (v :: vs) (d :: ds)) : SR Hs H0 H vs ds := by
  obtain ⟨Hf, fp, O, F⟩ := S
  cases O with
  | skip r => exact ⟨Hf, _, r, F⟩
  | cons h r => exact ⟨Hf, _, r, F.subl (List.sublist_append_right _ _)⟩
  | brw t h r => exact ⟨Hf, _, r, F⟩
theorem SR.head (S : SR Hs H0 H (some v :: vs) (some d :: ds)) : Rep H v d := by
  obtain ⟨Hf, fp, O, F⟩ := S
  cases O with
  | cons h r => exact h.v.rep F.fh
  | brw t h r => exact h.rep F.fh
theorem SR.atom (S : SR Hs H0 H vs ds) (h : ∀ H, Rep H v d) (t : d.tag = .f) : SR Hs H0 H (some v :: vs) (some d :: ds) := by
  obtain ⟨Hf, fp, O, F⟩ := S
  exact ⟨Hf, _, .cons (.fz (h Hf) t) O, F⟩
theorem SR.int (S : SR Hs H0 H vs ds) {i : Int} : SR Hs H0 H (some (.int i) :: vs) (some (.int i) :: ds) := S.atom (fun _ => .int) rfl
theorem SR.bl (S : SR Hs H0 H vs ds) {i : Bool} : SR Hs H0 H (some (.bl i) :: vs) (some (.bl i) :: ds) := S.atom (fun _ => .bl) rfl
theorem SR.str (S : SR Hs H0 H vs ds) {i : Str} : SR Hs H0 H (some (.str i) :: vs) (some (.str i) :: ds) := S.atom (fun _ => .str) rfl
theorem SR.non (S : SR Hs H0 H vs ds) : SR Hs H0 H (some .non :: vs) (some .non :: ds) := S.atom (fun _ => .non) rfl
theorem SR.grow {H' : Hp} (S : SR Hs H0 H vs ds) (s : Same H H') : SR Hs H0 H' vs ds := by
  obtain ⟨Hf, fp, O, F⟩ := S
  exact ⟨Hf, fp, O.mono (Same.refl _) s, F.nd, F.own, F.fh.trans s, F.zh.trans s, F.sf, F.new⟩
theorem SR.frz (S : SR Hs H0 H (some v :: vs) (some d :: ds)) (t : d.tag ≠ .b) : SR Hs H0 H (some v :: vs) (some d.fz :: ds) := by
  obtain ⟨Hf, fp, O, F⟩ := S
  cases O with
  | cons h r =>
    refine ⟨mix Hf H _, _, .cons (.fz (h.froz F.fh fun a m => m) ?_) (r.mono (mix_same F.fh) (Same.refl _)), F.froz⟩
    cases d <;> rfl
  | brw z h r => exact absurd z t
theorem SR.get (S : SR Hs H0 H vs ds) {i : Nat} (e : ds[i]? = some (some d)) : ∃ v, vs[i]? = some (some v) ∧ SR Hs H0 H (some v :: vs) (some d.rd :: ds) := by
  obtain ⟨Hf, fp, O, F⟩ := S
  obtain ⟨v, e', h⟩ := O.getV e
  refine ⟨v, e', Hf, fp, ?_, F⟩
  cases h with
  | fz h t =>
    have : d.rd = d := by cases d <;> first | rfl | (cases t; rfl) | cases t
    rw [this]
    exact Own.cons (fp := []) (.fz h t) O
  | lst t h r =>
    rename_i tt
    refine .brw ?_ (?_ : RepV Hf H _ (D.rd (.lst tt _))) O
    · cases tt <;> first | rfl | exact absurd rfl t
    · cases tt <;> first | exact absurd rfl t | exact .lst (by decide) h r
  | dic t h r =>
    rename_i tt
    refine .brw ?_ (?_ : RepV Hf H _ (D.rd (.dic tt _))) O
    · cases tt <;> first | rfl | exact absurd rfl t
    · cases tt <;> first | exact absurd rfl t | exact .dic (by decide) h r
  | ins t h r =>
    rename_i tt
    refine .brw ?_ (?_ : RepV Hf H _ (D.rd (.ins tt _ _))) O
    · cases tt <;> first | rfl | exact absurd rfl t
    · cases tt <;> first | exact absurd rfl t | exact .ins (by decide) h r
  | slf h r => exact .brw rfl (.ins (by decide) h r) O
end
end Mi
namespace Mi
open PySem L2
def D.asF : D → D
  | .lst _ xs => .lst .f xs
  | .dic _ xs => .dic .f xs
  | .ins _ C fs => .ins .f C fs
  | .slf _ C fs => .ins .f C fs
  | d => d
theorem D.asF_tag (d : D) : d.asF.tag = .f := by cases d <;> rfl
theorem D.fz_tag (d : D) : d.fz.tag = .f := by cases d <;> rfl
theorem Rep.asF {H : Hp} {v : V} {d : D} (h : Rep H v d) : Rep H v d.asF := by
  cases h with
  | lst h r => exact .lst h r
  | dic h r => exact .dic h r
  | non => exact .non
  | bl => exact .bl
  | int => exact .int
  | str => exact .str
  | tup h r => exact .tup h r
  | ins h r => exact .ins h r
  | scr h => exact .scr h
  | slf h r => exact .ins h r
  | exc h q => exact .exc h q
theorem RepOs.ofReps {Hf H : Hp} : ∀ {us es}, Reps Hf us es → (∀ e ∈ es, e.tag = .f) → RepOs Hf H [] us es := by
  intro _ _ hc t
  cases hc with
  | nil =>
    exact .nil
  | cons h r =>
    exact RepOs.cons (fp := []) (.fz h (t _ List.mem_cons_self)) (RepOs.ofReps r fun e m => t e (List.mem_cons_of_mem _ m))
theorem fzs_tag (es : List D) : ∀ e ∈ D.fzs es, e.tag = .f := by
  rw [D.fzs_map]
  intro e m
  obtain ⟨x, _, rfl⟩ := List.mem_map.mp m
  exact x.fz_tag
section
variable {Hs H0 H Hf : Hp} {vs : List (Option V)} {ds : List (Option D)} {v : V} {d : D} {fp : List Addr}
theorem SR.set (S : SR Hs H0 H (some v :: vs) (some d :: ds)) (t : d.tag ≠ .b) {i : Nat} (hi : i < ds.length) : SR Hs H0 H (vs.set i (some v)) (ds.set i (some d)) := by
  obtain ⟨Hf, fp, O, F⟩ := S
  cases O with
  | cons h r =>
    obtain ⟨fp', O', fp2, p, s⟩ := Own.put h r hi
    exact ⟨Hf, fp', O', (F.subl (List.Sublist.append_left s _)).perm p⟩
  | brw z h r => exact absurd z t
theorem SR.only {vs' : List (Option V)} {ds' : List (Option D)} (S : SR Hs H0 H (some v :: vs) (some d :: ds)) : SR Hs H0 H [some v] [some d] := by
  obtain ⟨Hf, fp, O, F⟩ := S
  cases O with
  | cons h r =>
    rename_i fp1 fp2
    have := Own.cons h (Own.nil (Hf := Hf) (H := H))
    exact ⟨Hf, _, this, F.subl (by simp)⟩
  | brw z h r => exact ⟨Hf, [], .brw z h .nil, F.subl (List.nil_sublist _)⟩
theorem SR.move (S : SR Hs H0 H vs ds) {i : Nat} (e : ds[i]? = some (some d)) (t : d.tag ≠ .b) : ∃ v, vs[i]? = some (some v) ∧ SR Hs H0 H (some v :: vs) (some d :: ds.set i none) := by
  obtain ⟨Hf, fp, O, F⟩ := S
  obtain ⟨v, fp1, fp2, e', h, O', p⟩ := O.take e t
  exact ⟨v, e', Hf, _, .cons h O', F.perm p.symm⟩
def hv (us : List V) : List (Option V) := us.reverse.map some
def hd (es : List D) : List (Option D) := es.reverse.map some
theorem hv_snoc (us : List V) (u : V) (vs : List (Option V)) : hv (us ++ [u]) ++ vs = some u :: (hv us ++ vs) := by simp [hv]
theorem hd_snoc (us : List D) (u : D) (vs : List (Option D)) : hd (us ++ [u]) ++ vs = some u :: (hd us ++ vs) := by simp [hd]
theorem Own.takeAll {us : List V} {es : List D} (hl : us.length = es.length) (hb : ∀ e ∈ es, e.tag ≠ .b) (O : Own Hf H fp (hv us ++ vs) (hd es ++ ds)) :
    ∃ fp1 fp2, RepOs Hf H fp1 us es ∧ Own Hf H fp2 vs ds ∧ fp.Perm (fp1 ++ fp2) := by
  induction us using List.reverseRecOn' generalizing es fp with
  | nil =>
    have : es = [] := by cases es with | nil => rfl | cons x y => simp at hl
    subst this
    exact ⟨[], fp, .nil, by simpa [hv, hd] using O, .refl _⟩
  | snoc us u ih =>
    obtain ⟨es', e, rfl⟩ : ∃ es' e, es = es' ++ [e] := by
      cases es using List.reverseRecOn' with
      | nil => simp at hl
      | snoc es' e => exact ⟨es', e, rfl⟩
    rw [hv_snoc, hd_snoc] at O
    have hl' : us.length = es'.length := by simpa using hl
    cases O with
    | cons h r =>
      rename_i f1 f2
      obtain ⟨fp1, fp2, R, O', p⟩ := ih hl' (fun x m => hb x (List.mem_append_left _ m)) r
      have R1 : RepOs Hf H (f1 ++ []) [u] [e] := .cons h .nil
      refine ⟨fp1 ++ f1, fp2, by simpa using R.append R1, O', ?_⟩
      refine (List.Perm.append_left _ p).trans ?_
      rw [← List.append_assoc]
      exact List.Perm.append_right _ List.perm_append_comm
    | brw z h r => exact absurd z (hb e (by simp))
theorem SR.mkList {us : List V} {es : List D} (S : SR Hs H0 H (hv us ++ vs) (hd es ++ ds)) (hl : us.length = es.length) (hb : ∀ e ∈ es, e.tag ≠ .b) {p : Addr} (hp : H p = none) :
    SR Hs H0 (upd H p (.lst us)) (some (.ref p) :: vs) (some (.lst .o es) :: ds) := by
  obtain ⟨Hf, fp, O, F⟩ := S
  obtain ⟨fp1, fp2, R, O', pm⟩ := O.takeAll hl hb
  have F' := F.perm pm.symm
  have s : Same H (upd H p (.lst us)) := fun b o e => by rw [upd_ne (ne_of_none e hp)]; exact e
  have hnp : p ∉ fp1 ++ fp2 := fun m => by
    rcases List.mem_append.mp m with m | m
    · obtain ⟨o, e⟩ := R.there p m; rw [hp] at e; cases e
    · obtain ⟨o, e⟩ := O'.there p m; rw [hp] at e; cases e
  have hf0 : ∀ {H1 : Hp}, Same H1 H → H1 p = none := fun {H1} q => by
    cases e : H1 p with
    | none => rfl
    | some o => have := q p o e; rw [hp] at this; cases this
  refine ⟨Hf, (p :: fp1) ++ fp2, .cons (.lst upd_same (R.keep (Same.refl _) fun a o _ e => s a o e)) (O'.mono (Same.refl _) s), ?_, ?_, F'.fh.trans s, F'.zh.trans s, F'.sf, F'.new⟩
  · rw [List.cons_append]; exact List.nodup_cons.mpr ⟨hnp, F'.nd⟩
  · intro a m
    rw [List.cons_append] at m
    rcases List.mem_cons.mp m with e | m
    · subst e; exact ⟨hf0 F'.fh, hf0 F'.zh⟩
    · exact F'.own a m
theorem SR.frozen {us : List V} {es : List D} (S : SR Hs H0 H (hv us ++ vs) (hd es ++ ds)) (hl : us.length = es.length) (hb : ∀ e ∈ es, e.tag ≠ .b) :
    ∃ Hf fp, Own Hf H fp vs ds ∧ Fine Hs H0 Hf H fp ∧ Reps Hf us (D.fzs es) := by
  obtain ⟨Hf, fp, O, F⟩ := S
  obtain ⟨fp1, fp2, R, O', pm⟩ := O.takeAll hl hb
  have F' := F.perm pm.symm
  exact ⟨mix Hf H fp1, fp2, O'.mono (mix_same F'.fh) (Same.refl _), F'.froz, R.froz F'.fh fun a m => m⟩
theorem Fine.fresh (F : Fine Hs H0 Hf H fp) {p : Addr} (hp : H p = none) : Hf p = none ∧ H0 p = none := by
  constructor
  · cases e : Hf p with
    | none => rfl
    | some o => have := F.fh p o e; rw [hp] at this; cases this
  · cases e : H0 p with
    | none => rfl
    | some o => have := F.zh p o e; rw [hp] at this; cases this
theorem SR.laidF {o : HO} (O : Own Hf H fp vs ds) (F : Fine Hs H0 Hf H fp) {p : Addr} (hp : H p = none) (r : Rep (upd Hf p o) v d) (t : d.tag = .f) :
    SR Hs H0 (upd H p o) (some v :: vs) (some d :: ds) := by
  obtain ⟨hf, h0⟩ := F.fresh hp
  have s : Same H (upd H p o) := fun b o e => by rw [upd_ne (ne_of_none e hp)]; exact e
  have sf : Same Hf (upd Hf p o) := fun b o e => by rw [upd_ne (ne_of_none e hf)]; exact e
  refine ⟨upd Hf p o, [] ++ fp, .cons (.fz r t) (O.mono sf s), F.nd, fun a m => ?_, fun b u e => ?_, F.zh.trans s, F.sf.trans sf, fun a u e => ?_⟩
  · have hne : a ≠ p := fun z => by subst z; obtain ⟨o, e⟩ := O.there a m; rw [hp] at e; cases e
    rw [upd_ne hne]; exact F.own a m
  · by_cases hb : b = p
    · subst hb; rw [upd_same] at e ⊢; exact e
    · rw [upd_ne hb] at e ⊢; exact F.fh b u e
  · by_cases hb : a = p
    · subst hb; exact .inr h0
    · rw [upd_ne hb] at e; exact F.new a u e
theorem SR.mkTup {us : List V} {es : List D} (S : SR Hs H0 H (hv us ++ vs) (hd es ++ ds)) (hl : us.length = es.length) (hb : ∀ e ∈ es, e.tag ≠ .b) {p : Addr} (hp : H p = none) :
    SR Hs H0 (upd H p (.tup us)) (some (.ref p) :: vs) (some (.tup (D.fzs es)) :: ds) := by
  obtain ⟨Hf, fp, O, F, R⟩ := S.frozen hl hb
  have sf : Same Hf (upd Hf p (.tup us)) := fun b o e => by rw [upd_ne (ne_of_none e (F.fresh hp).1)]; exact e
  exact SR.laidF O F hp (.tup upd_same (R.mono sf)) rfl
def D.its : D → Option (List D)
  | .lst .b xs => if xs.all (fun x => x.tag == .f) then some xs else none
  | .lst .f xs => some (xs.map D.asF)
  | .lst .o xs => some (D.fzs xs)
  | .tup xs => some (xs.map D.asF)
  | _ => none
theorem Reps.asF {H : Hp} : ∀ {us es}, Reps H us es → Reps H us (es.map D.asF) := by
  intro _ _ hc
  cases hc with
  | nil =>
    exact .nil
  | cons h r =>
    exact .cons h.asF (Reps.asF r)
theorem RepVs.frozen {Hf H : Hp} : ∀ {us es}, RepVs Hf H us es → (∀ e ∈ es, e.tag = .f) → Reps Hf us es := by
  intro _ _ hc t
  cases hc with
  | nil =>
    exact .nil
  | cons h r =>
    exact .cons (by
          cases h with
          | fz h _ => exact h
          | lst z _ _ => exact absurd (t _ List.mem_cons_self) z
          | dic z _ _ => exact absurd (t _ List.mem_cons_self) z
          | ins z _ _ => exact absurd (t _ List.mem_cons_self) z
          | slf _ _ => exact absurd (t _ List.mem_cons_self) (fun z => nomatch z)) (RepVs.frozen r fun e m => t e (List.mem_cons_of_mem _ m))
theorem D.its_tag {d : D} {ys : List D} (h : d.its = some ys) : ∀ e ∈ ys, e.tag = .f := by
  cases d with
  | lst t xs =>
    cases t with
    | f => simp [D.its] at h; subst h; intro e m; obtain ⟨x, _, rfl⟩ := List.mem_map.mp m; exact x.asF_tag
    | o => simp [D.its] at h; subst h; exact fzs_tag xs
    | b =>
      simp only [D.its] at h
      split at h
      · cases h
        rename_i hall
        intro e m
        simpa using List.all_eq_true.mp hall e m
      · cases h
  | tup xs => simp [D.its] at h; subst h; intro e m; obtain ⟨x, _, rfl⟩ := List.mem_map.mp m; exact x.asF_tag
  | _ => simp [D.its] at h
def D.isL : D → Bool
  | .lst _ _ => true
  | _ => false
theorem Own.items (O : Own Hf H fp (some v :: vs) (some d :: ds)) (F : Fine Hs H0 Hf H fp) {ys : List D} (hy : d.its = some ys) :
    ∃ a us, v = .ref a ∧ (H a = some (if d.isL then .lst us else .tup us)) ∧ ∃ Hg fq, Own Hg H fq vs ds ∧ Fine Hs H0 Hg H fq ∧ Same Hf Hg ∧ Reps Hg us ys := by
  cases d with
  | lst t xs =>
    cases t with
    | f =>
      simp [D.its] at hy; subst hy
      cases O with
      | cons h r =>
        cases h with
        | fz h _ => cases h with | lst h q => exact ⟨_, _, rfl, F.fh _ _ h, Hf, _, r, F.subl (List.sublist_append_right _ _), Same.refl _, q.asF⟩
      | brw z h r => cases z
    | o =>
      simp [D.its] at hy; subst hy
      cases O with
      | cons h r =>
        cases h with
        | fz h z => cases z
        | lst h q =>
          rename_i a xs' fp1
          refine ⟨_, _, rfl, h, mix Hf H (a :: fp1), _, r.mono (mix_same F.fh) (Same.refl _), F.froz, mix_same F.fh, q.froz F.fh fun b m => List.mem_cons_of_mem _ m⟩
      | brw z h r => cases z
    | b =>
      simp only [D.its] at hy
      split at hy
      · cases hy
        rename_i hall
        cases O with
        | cons h r =>
          cases h with
          | fz h z => cases z
        | brw z h r =>
          cases h with
          | fz h z => cases z
          | lst z h q => exact ⟨_, _, rfl, h, Hf, _, r, F, Same.refl _, q.frozen fun e m => by simpa using List.all_eq_true.mp hall e m⟩
      · cases hy
  | tup xs =>
    simp [D.its] at hy; subst hy
    cases O with
    | cons h r =>
      cases h with
      | fz h _ => cases h with | tup h q => exact ⟨_, _, rfl, F.fh _ _ h, Hf, _, r, F.subl (List.sublist_append_right _ _), Same.refl _, q.asF⟩
    | brw z h r => cases z
  | _ => simp [D.its] at hy
theorem SR.items (S : SR Hs H0 H (some v :: vs) (some d :: ds)) {ys : List D} (hy : d.its = some ys) :
    ∃ a us, v = .ref a ∧ (H a = some (if d.isL then .lst us else .tup us)) ∧ ∃ Hf fp, Own Hf H fp vs ds ∧ Fine Hs H0 Hf H fp ∧ Reps Hf us ys := by
  obtain ⟨Hf, fp, O, F⟩ := S
  obtain ⟨a, us, e1, e2, Hg, fq, O', F', _, R⟩ := O.items F hy
  exact ⟨a, us, e1, e2, Hg, fq, O', F', R⟩
theorem Own.itemsC (O : Own Hf H fp (some v :: vs) (some d :: ds)) (F : Fine Hs H0 Hf H fp) {ys : List D} (hy : d.its = some ys) (tb : d.tag ≠ .b) :
    ∃ a us, v = .ref a ∧ ∃ Hg fq, Own Hg H fq vs ds ∧ Fine Hs H0 Hg H fq ∧ Same Hf Hg ∧ Hg a = some (if d.isL then .lst us else .tup us) ∧ Reps Hg us ys := by
  cases d with
  | lst t xs =>
    cases t with
    | f =>
      simp [D.its] at hy; subst hy
      cases O with
      | cons h r =>
        cases h with
        | fz h _ => cases h with | lst h q => exact ⟨_, _, rfl, Hf, _, r, F.subl (List.sublist_append_right _ _), Same.refl _, h, q.asF⟩
      | brw z h r => cases z
    | o =>
      simp [D.its] at hy; subst hy
      cases O with
      | cons h r =>
        cases h with
        | fz h z => cases z
        | lst h q =>
          rename_i a xs' fp1
          exact ⟨_, _, rfl, mix Hf H (a :: fp1), _, r.mono (mix_same F.fh) (Same.refl _), F.froz, mix_same F.fh, by rw [mix_in List.mem_cons_self]; exact h, q.froz F.fh fun b m => List.mem_cons_of_mem _ m⟩
      | brw z h r => cases z
    | b => exact absurd rfl tb
  | tup xs =>
    simp [D.its] at hy; subst hy
    cases O with
    | cons h r =>
      cases h with
      | fz h _ => cases h with | tup h q => exact ⟨_, _, rfl, Hf, _, r, F.subl (List.sublist_append_right _ _), Same.refl _, h, q.asF⟩
    | brw z h r => cases z
  | _ => simp [D.its] at hy
def D.el : D → Nat → Option D
  | .lst .f xs, i => xs[i]?.map D.asF
  | .lst .o xs, i => xs[i]?
  | .lst .b xs, i => xs[i]?.map D.rd
  | .tup xs, i => xs[i]?.map D.asF
  | _, _ => none
theorem RepOs.item {Hf H : Hp} : ∀ {fp us es} {i : Nat} {e}, RepOs Hf H fp us es → es[i]? = some e → ∃ u fp1, us[i]? = some u ∧ RepO Hf H fp1 u e ∧ fp1.Sublist fp := by
  intro _ _ _ ic e hc q
  cases hc with
  | nil =>
    simp at q
  | cons h r =>
    cases ic with
    | zero =>
      simp at q; subst q; exact ⟨_, _, rfl, h, List.sublist_append_left _ _⟩
    | succ i =>
      obtain ⟨u, fp1, a, b, c⟩ := RepOs.item (i := i) r (by simpa using q)
      exact ⟨u, fp1, by simpa using a, b, c.trans (List.sublist_append_right _ _)⟩
theorem SR.elem (S : SR Hs H0 H (some v :: vs) (some d :: ds)) {i : Nat} {e : D} (he : d.el i = some e) :
    ∃ a us u, v = .ref a ∧ (H a = some (if d.isL then .lst us else .tup us)) ∧ us[i]? = some u ∧ SR Hs H0 H (some u :: vs) (some e :: ds) := by
  obtain ⟨Hf, fp, O, F⟩ := S
  cases d with
  | lst t xs =>
    cases t with
    | f =>
      simp [D.el] at he
      obtain ⟨x, hx, rfl⟩ := he
      cases O with
      | cons h r =>
        cases h with
        | fz h _ =>
          cases h with
          | lst h q =>
            obtain ⟨u, hu, ru⟩ := q.get hx
            exact ⟨_, _, u, rfl, F.fh _ _ h, hu, Hf, _, .cons (.fz ru.asF x.asF_tag) r, F.subl (by simp)⟩
      | brw z h r => cases z
    | o =>
      simp [D.el] at he
      cases O with
      | cons h r =>
        cases h with
        | fz h z => cases z
        | lst h q =>
          obtain ⟨u, fp1, hu, ru, sl⟩ := q.item he
          exact ⟨_, _, u, rfl, h, hu, Hf, _, .cons ru r, F.subl (List.Sublist.append_right (sl.trans (List.sublist_cons_self _ _)) _)⟩
      | brw z h r => cases z
    | b =>
      simp [D.el] at he
      obtain ⟨x, hx, rfl⟩ := he
      cases O with
      | cons h r =>
        cases h with
        | fz h z => cases z
      | brw z h r =>
        cases h with
        | fz h z => cases z
        | lst z h q =>
          obtain ⟨u, hu, ru⟩ := q.get hx
          refine ⟨_, _, u, rfl, h, hu, Hf, ?_⟩
          cases ru with
          | fz ru t =>
            have : x.rd = x := by cases x <;> first | rfl | (cases t; rfl) | cases t
            rw [this]
            exact ⟨_, .cons (.fz ru t) r, F⟩
          | lst t h' r' =>
            rename_i tt
            refine ⟨_, .brw ?_ ?_ r, F⟩
            · cases tt <;> first | rfl | exact absurd rfl t
            · cases tt <;> first | exact absurd rfl t | exact .lst (by decide) h' r'
          | dic t h' r' =>
            rename_i tt
            refine ⟨_, .brw ?_ ?_ r, F⟩
            · cases tt <;> first | rfl | exact absurd rfl t
            · cases tt <;> first | exact absurd rfl t | exact .dic (by decide) h' r'
          | ins t h' r' =>
            rename_i tt
            refine ⟨_, .brw ?_ ?_ r, F⟩
            · cases tt <;> first | rfl | exact absurd rfl t
            · cases tt <;> first | exact absurd rfl t | exact .ins (by decide) h' r'
          | slf h' r' => exact ⟨_, .brw rfl (.ins (by decide) h' r') r, F⟩
  | tup xs =>
    simp [D.el] at he
    obtain ⟨x, hx, rfl⟩ := he
    cases O with
    | cons h r =>
      cases h with
      | fz h _ =>
        cases h with
        | tup h q =>
          obtain ⟨u, hu, ru⟩ := q.get hx
          exact ⟨_, _, u, rfl, F.fh _ _ h, hu, Hf, _, .cons (.fz ru.asF x.asF_tag) r, F.subl (by simp)⟩
    | brw z h r => cases z
  | _ => simp [D.el] at he
theorem SR.told {H' : Hp} (O : Own Hf H fp vs ds) (F : Fine Hs H0 Hf H fp) (R : SR Hf H H' [some v] [some d]) (t : d.tag ≠ .b) : SR Hs H0 H' (some v :: vs) (some d :: ds) := by
  obtain ⟨Hg, fq, O', G⟩ := R
  cases O' with
  | cons h r =>
    cases r
    rename_i fq
    rw [List.append_nil] at G
    have sH := G.zh
    refine ⟨Hg, fq ++ fp, .cons h (O.mono G.sf sH), ?_, fun a m => ?_, G.fh, F.zh.trans sH, F.sf.trans G.sf, fun a o e => ?_⟩
    · refine List.nodup_append.mpr ⟨G.nd, F.nd, fun a m b n z => ?_⟩
      subst z
      obtain ⟨o, e⟩ := O.there a n
      rw [(G.own a m).2] at e; cases e
    · rcases List.mem_append.mp m with m | m
      · refine ⟨(G.own a m).1, ?_⟩
        cases e : H0 a with
        | none => rfl
        | some o => have := F.zh a o e; rw [(G.own a m).2] at this; cases this
      · refine ⟨?_, (F.own a m).2⟩
        cases e : Hg a with
        | none => rfl
        | some o =>
          rcases G.new a o e with ⟨o', z⟩ | z
          · rw [(F.own a m).1] at z; cases z
          · obtain ⟨o', y⟩ := O.there a m; rw [z] at y; cases y
    · rcases G.new a o e with ⟨o', z⟩ | z
      · exact F.new a o' z
      · refine .inr ?_
        cases q : H0 a with
        | none => rfl
        | some u => have := F.zh a u q; rw [z] at this; cases this
  | brw z h r => exact absurd z t
end
end Mi
namespace Mi
open PySem L2
theorem RepOs.pick {Hf H : Hp} : ∀ {fp us es} {k : Nat} {e}, RepOs Hf H fp us es → es[k]? = some e →
    ∃ u f1 f2, us[k]? = some u ∧ RepO Hf H f1 u e ∧ RepOs Hf H f2 (us.eraseIdx k) (es.eraseIdx k) ∧ fp.Perm (f1 ++ f2) := by
  intro _ _ _ ic e hc q
  cases hc with
  | nil =>
    simp at q
  | @cons f0 _ _ _ _ _ h r =>
    cases ic with
    | zero =>
      simp at q; subst q; exact ⟨_, _, _, rfl, h, r, .refl _⟩
    | succ k =>
      obtain ⟨u, f1, f2, a, b, c, p⟩ := RepOs.pick (k := k) r (by simpa using q)
      refine ⟨u, f1, f0 ++ f2, by simpa using a, b, .cons h c, (List.Perm.append_left f0 p).trans ?_⟩
      rw [← List.append_assoc, ← List.append_assoc]
      exact List.Perm.append_right _ List.perm_append_comm
theorem RepOs.put {Hf H : Hp} {f1 : List Addr} {v : V} {d : D} (h1 : RepO Hf H f1 v d) : ∀ {fp us es} {k : Nat}, RepOs Hf H fp us es → k < es.length →
    ∃ fp' f2, RepOs Hf H fp' (us.set k v) (es.set k d) ∧ fp'.Perm (f1 ++ f2) ∧ f2.Sublist fp := by
  intro _ _ _ ic hc q
  cases hc with
  | nil =>
    simp at q
  | @cons f0 _ _ _ _ _ h r =>
    cases ic with
    | zero =>
      exact ⟨_, _, .cons h1 r, .refl _, List.sublist_append_right _ _⟩
    | succ k =>
      obtain ⟨fp', f2, a, p, s⟩ := RepOs.put (k := k) h1 r (by simpa using q)
      refine ⟨f0 ++ fp', f0 ++ f2, .cons h a, (List.Perm.append_left f0 p).trans ?_, s.append_left f0⟩
      rw [← List.append_assoc, ← List.append_assoc]
      exact List.Perm.append_right _ List.perm_append_comm
theorem RepOs.turn {Hf H H' : Hp} : ∀ {fp us es} {k : Nat} {e}, RepOs Hf H fp us es → es[k]? = some e →
    ∃ u f1 f2, us[k]? = some u ∧ RepO Hf H f1 u e ∧ fp.Perm (f1 ++ f2) ∧
      ∀ f1' e', RepO Hf H' f1' u e' → (∀ a o, a ∈ f2 → H a = some o → H' a = some o) → ∃ fp', RepOs Hf H' fp' us (es.set k e') ∧ fp'.Perm (f1' ++ f2) := by
  intro _ _ _ ic e hc q
  cases hc with
  | nil =>
    simp at q
  | @cons f0 _ _ _ _ _ h r =>
    cases ic with
    | zero =>
      simp at q; subst q
      exact ⟨_, _, _, rfl, h, .refl _, fun f1' e' h' kp => ⟨_, .cons h' (r.keep (Same.refl _) kp), .refl _⟩⟩
    | succ k =>
      obtain ⟨u, f1, f2, a, b, p, w⟩ := RepOs.turn (H' := H') (k := k) r (by simpa using q)
      refine ⟨u, f1, f0 ++ f2, by simpa using a, b, (List.Perm.append_left f0 p).trans ?_, fun f1' e' h' kp => ?_⟩
      · rw [← List.append_assoc, ← List.append_assoc]
        exact List.Perm.append_right _ List.perm_append_comm
      · obtain ⟨fp', R, p'⟩ := w f1' e' h' fun a o m => kp a o (List.mem_append_right _ m)
        refine ⟨f0 ++ fp', .cons (h.keep (Same.refl _) fun a o m => kp a o (List.mem_append_left _ m)) R, (List.Perm.append_left f0 p').trans ?_⟩
        rw [← List.append_assoc, ← List.append_assoc]
        exact List.Perm.append_right _ List.perm_append_comm
theorem Own.fill {Hf H : Hp} {fp1 : List Addr} {v : V} {d : D} (q : RepO Hf H fp1 v d) : ∀ {fp vs ds} {i : Nat}, Own Hf H fp vs ds → ds[i]? = some none →
    ∃ fp', Own Hf H fp' (vs.set i (some v)) (ds.set i (some d)) ∧ fp'.Perm (fp1 ++ fp) := by
  intro _ _ _ ic hc h
  cases hc with
  | nil =>
    simp at h
  | skip r =>
    cases ic with
    | zero =>
      exact ⟨_, .cons q r, .refl _⟩
    | succ i =>
      obtain ⟨fp', o, p⟩ := Own.fill (i := i) q r (by simpa using h)
      exact ⟨fp', .skip o, p⟩
  | @cons f1 _ _ _ _ _ q0 r =>
    cases ic with
    | zero =>
      simp at h
    | succ i =>
      obtain ⟨fp', o, p⟩ := Own.fill (i := i) q r (by simpa using h)
      refine ⟨f1 ++ fp', .cons q0 o, ?_⟩
      refine (List.Perm.append_left f1 p).trans ?_
      rw [← List.append_assoc, ← List.append_assoc]
      exact List.Perm.append_right _ List.perm_append_comm
  | brw t q0 r =>
    cases ic with
    | zero =>
      simp at h
    | succ i =>
      obtain ⟨fp', o, p⟩ := Own.fill (i := i) q r (by simpa using h)
      exact ⟨fp', .brw t q0 o, p⟩
section
variable {Hs H0 H Hf : Hp} {vs : List (Option V)} {ds : List (Option D)} {v : V} {d : D} {fp : List Addr}
theorem noB.set (n : noB ds) {i : Nat} {x : Option D} (h : ∀ d, x = some d → d.tag ≠ .b) : noB (ds.set i x) := fun d m => by
  rcases List.mem_or_eq_of_mem_set m with m | e
  · exact n d m
  · exact h d e.symm
theorem Own.write (O : Own Hf H fp vs ds) (n : noB ds) (nd : fp.Nodup) {i : Nat} (e : ds[i]? = some (some d)) (t : d.tag = .o) :
    ∃ p fpx fpr, vs[i]? = some (some (.ref p)) ∧ RepO Hf H (p :: fpx) (.ref p) d ∧ fp.Perm (p :: fpx ++ fpr) ∧
      ∀ H' d' fq, (∀ a o, a ∈ fpr → H a = some o → H' a = some o) → RepO Hf H' fq (.ref p) d' → ∃ fp', Own Hf H' fp' vs (ds.set i (some d')) ∧ fp'.Perm (fq ++ fpr) := by
  obtain ⟨v, fp1, fp2, e', h, O', pm⟩ := O.take e (by rw [t]; decide)
  have hi : i < ds.length := (List.getElem?_eq_some_iff.mp e).1
  have hvi : vs.set i (some v) = vs := by
    obtain ⟨a, b⟩ := List.getElem?_eq_some_iff.mp e'
    rw [← b]; exact List.set_getElem_self a
  have fin : ∀ H' d' fq, (∀ a o, a ∈ fp2 → H a = some o → H' a = some o) → RepO Hf H' fq v d' → ∃ fp', Own Hf H' fp' vs (ds.set i (some d')) ∧ fp'.Perm (fq ++ fp2) := fun H' d' fq kp h' => by
    have O1 : Own Hf H' fp2 vs (ds.set i none) := O'.keep (Same.refl _) (n.set fun _ z => nomatch z) kp
    obtain ⟨fp', O2, p2⟩ := O1.fill h' (i := i) (by simp [hi])
    rw [hvi, List.set_set] at O2
    exact ⟨fp', O2, p2⟩
  cases h with
  | fz h z => rw [t] at z; cases z
  | lst h r => exact ⟨_, _, _, e', .lst h r, pm, fin⟩
  | dic h r => exact ⟨_, _, _, e', .dic h r, pm, fin⟩
  | slf h q r => exact ⟨_, [_], _, e', .slf h q r, pm, fin⟩
theorem same_upd {H : Hp} {p : Addr} {o : HO} {a : Addr} {u : HO} (h : a ≠ p) (e : H a = some u) : upd H p o a = some u := by rw [upd_ne h]; exact e
theorem Fine.wrote (F : Fine Hs H0 Hf H fp) {p : Addr} (hp : p ∈ fp) {o : HO} {fq : List Addr} (nd : fq.Nodup) (own : ∀ a ∈ fq, Hf a = none ∧ H0 a = none) : Fine Hs H0 Hf (upd H p o) fq := by
  have ne : ∀ {H1 : Hp}, H1 p = none → Same H1 H → Same H1 (upd H p o) := fun {H1} hn s a u e => by
    refine same_upd (fun z => ?_) (s a u e)
    subst z; rw [hn] at e; cases e
  exact ⟨nd, own, ne (F.own p hp).1 F.fh, ne (F.own p hp).2 F.zh, F.sf, F.new⟩
theorem SR.append (S : SR Hs H0 H (some v :: vs) (some d :: ds)) (t : d.tag ≠ .b) (n : noB ds) {i : Nat} {xs : List D} (e : ds[i]? = some (some (.lst .o xs))) :
    ∃ p us, vs[i]? = some (some (.ref p)) ∧ H p = some (.lst us) ∧ us.length = xs.length ∧ SR Hs H0 (upd H p (.lst (us ++ [v]))) vs (ds.set i (some (.lst .o (xs ++ [d])))) := by
  obtain ⟨Hf, fp, O, F⟩ := S
  cases O with
  | brw z h r => exact absurd z t
  | cons h r =>
    rename_i f0 f1
    obtain ⟨p, fpx, fpr, e', q, pm, w⟩ := r.write n (List.nodup_append.mp F.nd).2.1 e rfl
    cases q with
    | lst q R =>
      rename_i us
      have pm' : (f0 ++ f1).Perm (p :: (fpx ++ f0) ++ fpr) := by
        refine (List.Perm.append_left f0 pm).trans ?_
        rw [List.cons_append, List.cons_append]
        refine List.perm_middle.trans (List.Perm.cons p ?_)
        rw [← List.append_assoc]
        exact List.Perm.append_right _ List.perm_append_comm
      have F' := F.perm pm'.symm
      have hpn : p ∉ (fpx ++ f0) ++ fpr := by
        have := F'.nd
        rw [List.cons_append] at this
        exact (List.nodup_cons.mp this).1
      have hp : p ∈ f0 ++ f1 := pm'.symm.subset (by simp)
      have kp : ∀ (l : List Addr), (∀ a ∈ l, a ∈ (fpx ++ f0) ++ fpr) → ∀ a o, a ∈ l → H a = some o → upd H p (.lst (us ++ [v])) a = some o := fun l hl a o m z =>
        same_upd (fun y => by subst y; exact hpn (hl a m)) z
      have R' : RepOs Hf (upd H p (.lst (us ++ [v]))) (fpx ++ f0) (us ++ [v]) (xs ++ [d]) := by
        have r1 : RepOs Hf (upd H p (.lst (us ++ [v]))) (f0 ++ []) [v] [d] := .cons (h.keep (Same.refl _) (kp f0 fun a m => by simp [m])) .nil
        rw [List.append_nil] at r1
        exact (R.keep (Same.refl _) (kp fpx fun a m => by simp [m])).append r1
      obtain ⟨fp', O', p'⟩ := w (upd H p (.lst (us ++ [v]))) (.lst .o (xs ++ [d])) (p :: (fpx ++ f0)) (kp fpr fun a m => by simp [m]) (.lst upd_same R')
      refine ⟨p, us, e', q, R.length, Hf, fp', O', F.wrote hp ?_ ?_⟩
      · exact (p'.nodup_iff).mpr F'.nd
      · intro a m
        exact F'.own a (p'.subset m)
theorem SR.popAt (S : SR Hs H0 H vs ds) (n : noB ds) {i k : Nat} {xs : List D} {x : D} (e : ds[i]? = some (some (.lst .o xs))) (ex : xs[k]? = some x) (tx : x.tag ≠ .b) :
    ∃ p us u, vs[i]? = some (some (.ref p)) ∧ H p = some (.lst us) ∧ us.length = xs.length ∧ us[k]? = some u ∧
      SR Hs H0 (upd H p (.lst (us.eraseIdx k))) (some u :: vs) (some x :: ds.set i (some (.lst .o (xs.eraseIdx k)))) := by
  obtain ⟨Hf, fp, O, F⟩ := S
  obtain ⟨p, fpx, fpr, e', q, pm, w⟩ := O.write n F.nd e rfl
  cases q with
  | lst q R =>
    rename_i us
    obtain ⟨u, f1, f2, eu, hu, R2, p2⟩ := R.pick ex
    have pm' : fp.Perm (f1 ++ (p :: f2 ++ fpr)) := by
      refine pm.trans ?_
      rw [List.cons_append, List.cons_append]
      refine List.Perm.trans (List.Perm.cons p ((List.Perm.append_right fpr p2).trans (by rw [List.append_assoc]))) List.perm_middle.symm
    have F' := F.perm pm'.symm
    have hp : p ∈ fp := pm'.symm.subset (by simp)
    have nd' := F'.nd
    have hpn : p ∉ f1 ++ (f2 ++ fpr) := by
      have : (p :: (f1 ++ (f2 ++ fpr))).Nodup := (List.perm_middle.nodup_iff).mp (by simpa using nd')
      exact (List.nodup_cons.mp this).1
    have kp : ∀ (l : List Addr), (∀ a ∈ l, a ∈ f1 ++ (f2 ++ fpr)) → ∀ a o, a ∈ l → H a = some o → upd H p (.lst (us.eraseIdx k)) a = some o := fun l hl a o m z =>
      same_upd (fun y => by subst y; exact hpn (hl a m)) z
    obtain ⟨fp', O', p'⟩ := w (upd H p (.lst (us.eraseIdx k))) (.lst .o (xs.eraseIdx k)) (p :: f2) (kp fpr fun a m => by simp [m]) (.lst upd_same (R2.keep (Same.refl _) (kp f2 fun a m => by simp [m])))
    refine ⟨p, us, u, e', q, R.length, eu, Hf, f1 ++ fp', .cons (hu.keep (Same.refl _) (kp f1 fun a m => by simp [m])) O', F.wrote hp ?_ ?_⟩
    · exact ((List.Perm.append_left f1 p').nodup_iff).mpr nd'
    · intro a m
      exact F'.own a ((List.Perm.append_left f1 p').subset m)
theorem SR.setAt (S : SR Hs H0 H (some v :: vs) (some d :: ds)) (t : d.tag ≠ .b) (n : noB ds) {i k : Nat} {xs : List D} (e : ds[i]? = some (some (.lst .o xs))) (hk : k < xs.length) :
    ∃ p us, vs[i]? = some (some (.ref p)) ∧ H p = some (.lst us) ∧ us.length = xs.length ∧ SR Hs H0 (upd H p (.lst (us.set k v))) vs (ds.set i (some (.lst .o (xs.set k d)))) := by
  obtain ⟨Hf, fp, O, F⟩ := S
  cases O with
  | brw z h r => exact absurd z t
  | cons h r =>
    rename_i f0 f1
    obtain ⟨p, fpx, fpr, e', q, pm, w⟩ := r.write n (List.nodup_append.mp F.nd).2.1 e rfl
    cases q with
    | lst q R =>
      rename_i us
      have pm' : (f0 ++ f1).Perm (p :: (f0 ++ fpx) ++ fpr) := by
        refine (List.Perm.append_left f0 pm).trans ?_
        rw [List.cons_append, List.cons_append]
        refine List.perm_middle.trans (List.Perm.cons p ?_)
        rw [List.append_assoc]
      have F' := F.perm pm'.symm
      have hpn : p ∉ (f0 ++ fpx) ++ fpr := by
        have := F'.nd
        rw [List.cons_append] at this
        exact (List.nodup_cons.mp this).1
      have hp : p ∈ f0 ++ f1 := pm'.symm.subset (by simp)
      have kp : ∀ (l : List Addr), (∀ a ∈ l, a ∈ (f0 ++ fpx) ++ fpr) → ∀ a o, a ∈ l → H a = some o → upd H p (.lst (us.set k v)) a = some o := fun l hl a o m z =>
        same_upd (fun y => by subst y; exact hpn (hl a m)) z
      obtain ⟨fq, f2, R', p2, s2⟩ := RepOs.put (h.keep (Same.refl _) (kp f0 fun a m => by simp [m])) (R.keep (Same.refl _) (kp fpx fun a m => by simp [m])) hk
      obtain ⟨fp', O', p'⟩ := w (upd H p (.lst (us.set k v))) (.lst .o (xs.set k d)) (p :: fq) (kp fpr fun a m => by simp [m]) (.lst upd_same R')
      have sub : ((p :: fq) ++ fpr).Perm ((p :: (f0 ++ f2)) ++ fpr) := List.Perm.append_right _ (List.Perm.cons p p2)
      have sl : ((p :: (f0 ++ f2)) ++ fpr).Sublist (p :: (f0 ++ fpx) ++ fpr) := by
        rw [List.cons_append, List.cons_append]
        exact List.Sublist.cons_cons p (List.Sublist.append_right (List.Sublist.append_left s2 _) _)
      have F2 := (F'.subl sl).perm (p'.trans sub)
      exact ⟨p, us, e', q, R.length, Hf, fp', O', F.wrote hp F2.nd F2.own⟩
end
end Mi
namespace Mi
open PySem PySem.Spec L2
open PyProof.Rows hiding St
inductive Res (α : Type) where
  | ok (a : α) | exc (C : Value) | bad
abbrev FEnv := List (Option D)
namespace Res
def bind {α β : Type} : Res α → (α → Res β) → Res β
  | .ok a, f => f a
  | .exc C, _ => .exc C
  | .bad, _ => .bad
noncomputable instance:Monad Res where
  pure := .ok
  bind := Res.bind
end Res
def Post {α : Type} (Ex : Value → Prop) (r : Res α) (k : α → Prop) : Prop :=
  match r with
  | .ok a => k a
  | .exc C => Ex C
  | .bad => False
theorem Post.bind {α β : Type} {Ex : Value → Prop} {r : Res α} {f : α → Res β} {k : β → Prop} (h : Post Ex (r >>= f) k) : Post Ex r fun a => Post Ex (f a) k := by
  cases r with
  | ok a => exact h
  | exc C => exact h
  | bad => exact h
theorem Post.imp {α : Type} {Ex : Value → Prop} {r : Res α} {k k' : α → Prop} (h : Post Ex r k) (f : ∀ a, r = .ok a → k a → k' a) : Post Ex r k' := by
  cases r with
  | ok a => exact f a rfl h
  | exc C => exact h
  | bad => exact h
def tvs (ts : List (V × D)) : List (Option V) := ts.map fun t => some t.1
def tds (ts : List (V × D)) : List (Option D) := ts.map fun t => some t.2
theorem tvs_len (ts : List (V × D)) : (tvs ts).length = ts.length := by simp [tvs]
theorem tds_len (ts : List (V × D)) : (tds ts).length = ts.length := by simp [tds]
def SX (Hs H0 H : Hp) (ts : List (V × D)) (σ : St) (ρ : FEnv) : Prop := SR Hs H0 H (tvs ts ++ σ) (tds ts ++ ρ)
def TEF (H0 : Hp) (Ex : Value → Prop) (f : FEnv → Res D) : TE := fun σ H Q => ∃ Hs ρ ts, SX Hs H0 H ts σ ρ ∧
  Post Ex (f ρ) fun d => ∀ v H', SX Hs H0 H' ((v, d) :: ts) σ ρ → Q v H'
def TTF (H0 : Hp) (Ex : Value → Prop) (f : FEnv → Res Bool) : TT := fun σ H Q => ∃ Hs ρ ts, SX Hs H0 H ts σ ρ ∧
  Post Ex (f ρ) fun b => ∀ H', SX Hs H0 H' ts σ ρ → Q b H'
def held (us : List V) (es : List D) (ts : List (V × D)) : List (V × D) := (us.zip es).reverse ++ ts
def TAF (H0 : Hp) (Ex : Value → Prop) (f : FEnv → Res (List D)) : TA := fun σ H Q => ∃ Hs ρ ts, SX Hs H0 H ts σ ρ ∧
  Post Ex (f ρ) fun es => ∀ us H', us.length = es.length → SX Hs H0 H' (held us es ts) σ ρ → Q us H'
structure FE (X : Cx) (H0 : Hp) (Ex : Value → Prop) (e : Expr) (f : FEnv → Res D) : Prop where
  go : PE X e (TEF H0 Ex f)
structure FT (X : Cx) (H0 : Hp) (Ex : Value → Prop) (e : Expr) (f : FEnv → Res Bool) : Prop where
  go : PT X e (TTF H0 Ex f)
structure FA (X : Cx) (H0 : Hp) (Ex : Value → Prop) (es : List Expr) (f : FEnv → Res (List D)) : Prop where
  go : PA X es (TAF H0 Ex f)
structure PV (X : Cx) (e : Expr) (i : Nat) : Prop where
  go : PE X e (tVar i)
theorem mv {X : Cx} (i : Nat) {x : Str} {pos : Pos} (hN : X.N[i]? = some x := by rfl) (hv : Vis X.env.scope x := by first | exact Or.inl rfl | exact Or.inr (Or.inl rfl) | exact Or.inr (Or.inr rfl)) (hd : (x == ("__debug__" : Str)) = false := by decide)
    (hcd : (x == ("__classdict__" : Str)) = false := by decide) : PV X (.Name x pos) i := ⟨pe_var hN hv hd hcd⟩
theorem PE.pre {X : Cx} {e : Expr} {t t' : TE} (h : PE X e t) (i : ∀ σ H Q, t' σ H Q → t σ H Q) : PE X e t' := fun pins s σ H Q I q => h pins s σ H Q I (i σ H Q q)
theorem PT.pre {X : Cx} {e : Expr} {t t' : TT} (h : PT X e t) (i : ∀ σ H Q, t' σ H Q → t σ H Q) : PT X e t' := fun pins s σ H Q I q => h pins s σ H Q I (i σ H Q q)
theorem PA.pre {X : Cx} {e : List Expr} {t t' : TA} (h : PA X e t) (i : ∀ σ H Q, t' σ H Q → t σ H Q) : PA X e t' := fun pos pins s σ H Q I q => h pos pins s σ H Q I (i σ H Q q)
theorem PS.pre {X : Cx} {e : Stmt} {t t' : TS} (h : PS X e t) (i : ∀ D σ H, t' D σ H → t D σ H) : PS X e t' := fun pins s σ H D I q => h pins s σ H D I (i D σ H q)
theorem PSs.pre {X : Cx} {e : List Stmt} {t t' : TS} (h : PSs X e t) (i : ∀ D σ H, t' D σ H → t D σ H) : PSs X e t' := fun pins s σ H D I q => h pins s σ H D I (i D σ H q)
section
variable {X : Cx} {Ex : Value → Prop} {H0 : Hp} {a b c e : Expr} {f g : FEnv → Res D} {pos : Pos}
def fVar (i : Nat) : FEnv → Res D := fun ρ => match ρ[i]? with
  | some (some d) => .ok d.rd
  | _ => .bad
theorem ix_right {α : Type} (l r : List α) (i : Nat) : (l ++ r)[l.length + i]? = r[i]? := by
  rw [List.getElem?_append_right (by omega)]
  congr 1
  omega
theorem fe_var (i : Nat) {x : Str} (h : PV X (.Name x pos) i) : FE X H0 Ex (.Name x pos) (fVar i) := by
  refine ⟨PE.pre h.go ?_⟩
  rintro σ H Q ⟨Hs, ρ, ts, S, p⟩
  unfold fVar at p
  split at p
  · rename_i d hd
    have e : (tds ts ++ ρ)[(tds ts).length + i]? = some (some d) := by rw [ix_right]; exact hd
    obtain ⟨v, hv, S'⟩ := SR.get S e
    rw [tds_len, ← tvs_len, ix_right] at hv
    exact ⟨v, hv, p v H S'⟩
  · exact p.elim
def fC (d : D) : FEnv → Res D := fun _ => .ok d
theorem fe_int {i j} : FE X H0 Ex (.Constant (.int i) j pos) (fC (.int i)) := by
  refine ⟨PE.pre pe_int ?_⟩
  rintro σ H Q ⟨Hs, ρ, ts, S, p⟩
  exact p _ H S.int
theorem fe_bl {i j} : FE X H0 Ex (.Constant (.bool i) j pos) (fC (.bl i)) := by
  refine ⟨PE.pre pe_bl ?_⟩
  rintro σ H Q ⟨Hs, ρ, ts, S, p⟩
  exact p _ H S.bl
theorem fe_gint {x : Str} {i : Int} {u : Value} (hg : Gl X x) (hm : X.mg x = some u) (r : RelV (.int i) u) (hd : (x == ("__debug__" : Str)) = false := by decide) : FE X H0 Ex (.Name x pos) (fC (.int i)) := by
  refine ⟨PE.pre (pe_glob hg hm r hd) ?_⟩
  rintro σ H Q ⟨Hs, ρ, ts, S, p⟩
  exact p _ H S.int
structure FOp (X : Cx) (f : Value → Value → Sem Value) (g : D → D → Res D) : Prop where
  go : OpR X f fun x y H Q => ∃ Hs H0 vs ds d1 d2 d,
  SR Hs H0 H (some y :: some x :: vs) (some d2 :: some d1 :: ds) ∧ g d1 d2 = .ok d ∧ ∀ v H', SR Hs H0 H' (some v :: vs) (some d :: ds) → Q v H'
theorem OpR.pre {f : Value → Value → Sem Value} {r r' : R2} (h : OpR X f r) (i : ∀ x y H Q, r' x y H Q → r x y H Q) : OpR X f r' := fun pins s σ H x y v u Q I a b q => h pins s σ H x y v u Q I a b (i x y H Q q)
def noX {α : Type} : Res α → Bool
  | .exc _ => false
  | _ => true
def f2 (g : D → D → Res D) (fa fb : FEnv → Res D) : FEnv → Res D := fun ρ => fa ρ >>= fun x => fb ρ >>= fun y => g x y
theorem f2_ok {H0 : Hp} {g : D → D → Res D} (hg : ∀ x y, noX (g x y) = true) {op : Value → Value → Sem Value} {σ : St} {H : Hp} {Q : VK} {fa fb : FEnv → Res D} (h : TEF H0 Ex (f2 g fa fb) σ H Q) :
    tOp (fun x y H Q => ∃ Hs H0 vs ds d1 d2 d, SR Hs H0 H (some y :: some x :: vs) (some d2 :: some d1 :: ds) ∧ g d1 d2 = .ok d ∧ ∀ v H', SR Hs H0 H' (some v :: vs) (some d :: ds) → Q v H') (TEF H0 Ex fa) (TEF H0 Ex fb) σ H Q := by
  obtain ⟨Hs, ρ, ts, S, p⟩ := h
  refine ⟨Hs, ρ, ts, S, (Post.bind p).imp fun d1 _ p1 v1 H1 S1 => ⟨Hs, ρ, (v1, d1) :: ts, S1, (Post.bind p1).imp fun d2 _ p2 v2 H2 S2 => ?_⟩⟩
  have hn := hg d1 d2
  cases e : g d1 d2 with
  | ok d => rw [e] at p2; exact ⟨Hs, H0, _, _, d1, d2, d, S2, e, p2⟩
  | exc C => rw [e] at hn; cases hn
  | bad => rw [e] at p2; exact p2.elim
theorem fe_op {op : Operator} {g : D → D → Res D} {fa fb : FEnv → Res D} (ho : FOp X (binaryOp op) g) (hg : ∀ x y, noX (g x y) = true) (ha : FE X H0 Ex a fa) (hb : FE X H0 Ex b fb) : FE X H0 Ex (.BinOp a op b pos) (f2 g fa fb) :=
  ⟨PE.pre (pe_op ho.go ha.go hb.go) fun _ _ _ h => f2_ok hg (op := binaryOp op) h⟩
theorem fe_cmp {op : CmpOp} {g : D → D → Res D} {fa fb : FEnv → Res D} (ho : FOp X (compareOp op) g) (hg : ∀ x y, noX (g x y) = true) (ha : FE X H0 Ex a fa) (hb : FE X H0 Ex b fb) (hm : behindInMarks op b = false) : FE X H0 Ex (.Compare a [op] [b] pos) (f2 g fa fb) :=
  ⟨PE.pre (pe_cmpR ho.go ha.go hb.go hm) fun _ _ _ h => f2_ok hg (op := compareOp op) h⟩
theorem SR.isInt {Hs H0 H : Hp} {vs : List (Option V)} {ds : List (Option D)} {v : V} {i : Int} (S : SR Hs H0 H (some v :: vs) (some (.int i) :: ds)) : v = .int i := by
  cases S.head; rfl
theorem SR.isBl {Hs H0 H : Hp} {vs : List (Option V)} {ds : List (Option D)} {v : V} {i : Bool} (S : SR Hs H0 H (some v :: vs) (some (.bl i) :: ds)) : v = .bl i := by
  cases S.head; rfl
theorem SR.isStr {Hs H0 H : Hp} {vs : List (Option V)} {ds : List (Option D)} {v : V} {i : Str} (S : SR Hs H0 H (some v :: vs) (some (.str i) :: ds)) : v = .str i := by
  cases S.head; rfl
def gI (C : Int → Int → Bool) (g : Int → Int → D) : D → D → Res D := fun x y => match x, y with
  | .int i, .int j => if C i j then .ok (g i j) else .bad
  | _, _ => .bad
theorem gI_noX (C : Int → Int → Bool) (g : Int → Int → D) : ∀ x y, noX (gI C g x y) = true := by
  intro x y
  unfold gI
  split
  · split <;> rfl
  · rfl
theorem fop_int {f : Value → Value → Sem Value} {C : Int → Int → Prop} {C' : Int → Int → Bool} {g : Int → Int → Int} (h : OpR X f (rI C fun i j => .int (g i j))) (hc : ∀ i j, C' i j = true → C i j) : FOp X f (gI C' fun i j => .int (g i j)) := by
  refine ⟨OpR.pre h ?_⟩
  rintro x y H Q ⟨Hs, H0, vs, ds, d1, d2, d, S, e, k⟩
  unfold gI at e
  split at e
  · rename_i i j
    split at e
    · rename_i hcc
      cases e
      cases SR.isInt S
      cases SR.isInt S.drop
      exact ⟨i, j, rfl, rfl, hc i j hcc, k _ H S.drop.drop.int⟩
    · cases e
  · cases e
theorem fop_int0 {f : Value → Value → Sem Value} {g : Int → Int → Int} (h : OpR X f (rI0 fun i j => .int (g i j))) : FOp X f (gI (fun _ _ => true) fun i j => .int (g i j)) := by
  refine ⟨OpR.pre h ?_⟩
  rintro x y H Q ⟨Hs, H0, vs, ds, d1, d2, d, S, e, k⟩
  unfold gI at e
  split at e
  · rename_i i j
    cases e
    cases SR.isInt S
    cases SR.isInt S.drop
    exact ⟨i, j, rfl, rfl, k _ H S.drop.drop.int⟩
  · cases e
theorem fop_cmp0 {f : Value → Value → Sem Value} {g : Int → Int → Bool} (h : OpR X f (rI0 fun i j => .bl (g i j))) : FOp X f (gI (fun _ _ => true) fun i j => .bl (g i j)) := by
  refine ⟨OpR.pre h ?_⟩
  rintro x y H Q ⟨Hs, H0, vs, ds, d1, d2, d, S, e, k⟩
  unfold gI at e
  split at e
  · rename_i i j
    cases e
    cases SR.isInt S
    cases SR.isInt S.drop
    exact ⟨i, j, rfl, rfl, k _ H S.drop.drop.bl⟩
  · cases e
def dSub := gI (fun _ _ => true) fun i j => .int (i - j)
def dMulI := gI (fun i j => (decide (-(2 ^ 64) < i) && decide (i < 2 ^ 64)) || (decide (-(2 ^ 64) < j) && decide (j < 2 ^ 64))) fun i j => .int (i * j)
def dFdiv := gI (fun _ j => decide (0 < j) && decide (j < 1073741824)) fun i j => .int (i / j)
def dMod := gI (fun _ j => decide (0 < j)) fun i j => .int (i % j)
def dLt := gI (fun _ _ => true) fun i j => .bl (decide (i < j))
def dLe := gI (fun _ _ => true) fun i j => .bl (decide (i ≤ j))
def dGt := gI (fun _ _ => true) fun i j => .bl (decide (j < i))
def dGe := gI (fun _ _ => true) fun i j => .bl (decide (j ≤ i))
theorem fo_sub : FOp X (binaryOp .Sub) dSub := fop_int0 op_sub
theorem fo_mulI : FOp X (binaryOp .Mult) dMulI := fop_int op_mul fun i j h => by
  simp at h
  exact h
theorem fo_fdiv : FOp X (binaryOp .FloorDiv) dFdiv := fop_int op_fdiv fun i j h => by
  simp at h
  exact h
theorem fo_mod : FOp X (binaryOp .Mod) dMod := fop_int op_mod fun i j h => by
  simp at h
  exact h
theorem fo_lt : FOp X (compareOp .Lt) dLt := fop_cmp0 op_lt
theorem fo_gt : FOp X (compareOp .Gt) dGt := fop_cmp0 op_gt
theorem SR.laidL {Hs H0 H Hf : Hp} {fp : List Addr} {vs : List (Option V)} {ds : List (Option D)} (O : Own Hf H fp vs ds) (F : Fine Hs H0 Hf H fp) {us : List V} {es : List D} (R : Reps Hf us es) (ht : ∀ e ∈ es, e.tag = .f) {p : Addr} (hp : H p = none) :
    SR Hs H0 (upd H p (.lst us)) (some (.ref p) :: vs) (some (.lst .o es) :: ds) := by
  obtain ⟨hf, h0⟩ := F.fresh hp
  have s : Same H (upd H p (.lst us)) := fun b o e => by rw [upd_ne (ne_of_none e hp)]; exact e
  refine ⟨Hf, [p] ++ fp, .cons (.lst upd_same (RepOs.ofReps R ht)) (O.mono (Same.refl _) s), ?_, ?_, F.fh.trans s, F.zh.trans s, F.sf, F.new⟩
  · refine List.nodup_cons.mpr ⟨fun m => ?_, F.nd⟩
    obtain ⟨o, e⟩ := O.there p m; rw [hp] at e; cases e
  · intro a m
    rcases List.mem_cons.mp m with e | m
    · subst e; exact ⟨hf, h0⟩
    · exact F.own a m
def dCat : D → D → Res D := fun x y => match x, y with
  | .int i, .int j => .ok (.int (i + j))
  | .str i, .str j => if i.length + j.length ≤ sizeLine then .ok (.str (i ++ j)) else .bad
  | .lst t xs, .lst u ys => match D.its (.lst t xs), D.its (.lst u ys) with
    | some xs', some ys' => if xs'.length + ys'.length ≤ sizeLine then .ok (.lst .o (xs' ++ ys')) else .bad
    | _, _ => .bad
  | _, _ => .bad
theorem dCat_noX : ∀ x y, noX (dCat x y) = true := by
  intro x y
  unfold dCat
  split
  · rfl
  · split <;> rfl
  · split
    · split <;> rfl
    · rfl
  · rfl
theorem fo_add : FOp X (binaryOp .Add) dCat := by
  refine ⟨OpR.pre (OpR.or op_add (OpR.or op_add_str op_cat)) ?_⟩
  rintro x y H Q ⟨Hs, H0, vs, ds, d1, d2, d, S, e, k⟩
  unfold dCat at e
  split at e
  · rename_i i j
    cases e
    cases SR.isInt S
    cases SR.isInt S.drop
    exact .inl ⟨i, j, rfl, rfl, k _ H S.drop.drop.int⟩
  · rename_i i j
    split at e
    · rename_i hl
      cases e
      cases SR.isStr S
      cases SR.isStr S.drop
      exact .inr (.inl ⟨i, j, rfl, rfl, hl, k _ H S.drop.drop.str⟩)
    · cases e
  · rename_i t xs u ys
    split at e
    · rename_i xs' ys' hx hy
      split at e
      · rename_i hl
        cases e
        obtain ⟨Hf, fp, O, F⟩ := S
        obtain ⟨a2, us2, rfl, e2, Hg, fq, O1, F1, s1, R2⟩ := O.items F hy
        obtain ⟨a1, us1, rfl, e1, Hk, fr, O2, F2, s2, R1⟩ := O1.items F1 hx
        refine .inr (.inr ⟨a1, a2, us1, us2, rfl, rfl, e1, e2, by rw [R1.length, R2.length]; exact hl, fun p hp => k _ _ ?_⟩)
        exact SR.laidL O2 F2 (R1.append (R2.mono s2)) (fun z m => (List.mem_append.mp m).elim (D.its_tag hx z) (D.its_tag hy z)) hp
      · cases e
    · cases e
  · cases e
theorem Reps.rep {H : Hp} {us : List V} {es : List D} (R : Reps H us es) : ∀ k : Nat, Reps H (List.replicate k us).flatten (List.replicate k es).flatten
  | 0 => .nil
  | k + 1 => by
    rw [List.replicate_succ, List.replicate_succ, List.flatten_cons, List.flatten_cons]
    exact R.append (Reps.rep R k)
structure FIx (X : Cx) (g : D → D → Res D) : Prop where
  go : IxR X fun x y H Q => ∃ Hs H0 vs ds d1 d2 d,
  SR Hs H0 H (some y :: some x :: vs) (some d2 :: some d1 :: ds) ∧ g d1 d2 = .ok d ∧ ∀ v H', SR Hs H0 H' (some v :: vs) (some d :: ds) → Q v H'
theorem fe_ixOf {g : D → D → Res D} {fa fb : FEnv → Res D} (ho : FIx X g) (hg : ∀ x y, noX (g x y) = true) (ha : FE X H0 Ex a fa) (hb : FE X H0 Ex b fb) (hs : PlainIx b) : FE X H0 Ex (.Subscript a b pos) (f2 g fa fb) :=
  ⟨PE.pre (pe_ix ho.go ha.go hb.go hs) fun _ _ _ h => f2_ok hg (op := fun _ _ => pure .none) h⟩
theorem IxR.pre {r r' : R2} (h : IxR X r) (i : ∀ x y H Q, r' x y H Q → r x y H Q) : IxR X r' := fun v sl pins s σ H x y a u Q I p q w z => h v sl pins s σ H x y a u Q I p q (i x y H Q w) z
def ofOpt {α : Type} : Option α → Res α
  | some a => .ok a
  | none => .bad
def dIx : D → D → Res D := fun x y => match x, y with
  | .lst t xs, .int i => match ixN xs.length i with
    | some j => ofOpt (D.el (.lst t xs) j)
    | none => .bad
  | .tup xs, .int i => match ixN xs.length i with
    | some j => ofOpt (D.el (.tup xs) j)
    | none => .bad
  | .str z, .int i => match atI z.cps.toList i with
    | some c => if z.length ≤ sizeLine then .ok (.str ⟨#[c]⟩) else .bad
    | none => .bad
  | .scr ns, .int i => match atI ns i with
    | some c => .ok (.int c)
    | none => .bad
  | _, _ => .bad
theorem ofOpt_noX {α : Type} (o : Option α) : noX (ofOpt o) = true := by cases o <;> rfl
theorem ofOpt_ok {α : Type} {o : Option α} {a : α} (h : ofOpt o = .ok a) : o = some a := by
  cases o with
  | some b => cases h; rfl
  | none => cases h
theorem dIx_noX : ∀ x y, noX (dIx x y) = true := by
  intro x y
  unfold dIx
  split
  · split
    · exact ofOpt_noX _
    · rfl
  · split
    · exact ofOpt_noX _
    · rfl
  · split
    · split <;> rfl
    · rfl
  · split <;> rfl
  · rfl
theorem atI_of {α : Type} {xs : List α} {i : Int} {j : Nat} {v : α} (h : ixN xs.length i = some j) (e : xs[j]? = some v) : atI xs i = some v := by
  unfold atI
  rw [h]
  exact e
theorem fi_seq : FIx X dIx := by
  refine ⟨IxR.pre ix_seq ?_⟩
  rintro x y H Q ⟨Hs, H0, vs, ds, d1, d2, d, S, e, k⟩
  unfold dIx at e
  split at e
  · rename_i t xs i
    cases SR.isInt S
    split at e
    · rename_i j hj
      have he := ofOpt_ok e
      obtain ⟨a, us, u, rfl, h1, h2, S'⟩ := S.drop.elem he
      have hl : us.length = xs.length := by
        have := S.drop.head
        cases this with
        | lst q R =>
          have h1' : H a = some (.lst us) := h1
          rw [h1'] at q; cases q
          exact R.length
      exact .inl ⟨a, us, i, u, rfl, rfl, SqL.of h1, atI_of (by rw [hl]; exact hj) h2, k _ H S'⟩
    · cases e
  · rename_i xs i
    cases SR.isInt S
    split at e
    · rename_i j hj
      have he := ofOpt_ok e
      obtain ⟨a, us, u, rfl, h1, h2, S'⟩ := S.drop.elem he
      have hl : us.length = xs.length := by
        have := S.drop.head
        cases this with
        | tup q R =>
          have h1' : H a = some (.tup us) := h1
          rw [h1'] at q; cases q
          exact R.length
      exact .inr (.inl ⟨a, us, i, u, rfl, rfl, SqT.of h1, atI_of (by rw [hl]; exact hj) h2, k _ H S'⟩)
    · cases e
  · rename_i z i
    cases SR.isInt S
    split at e
    · rename_i c hc
      split at e
      · rename_i hz
        cases e
        cases SR.isStr S.drop
        exact .inr (.inr ⟨z, i, c, rfl, rfl, hz, hc, k _ H S.drop.drop.str⟩)
      · cases e
    · cases e
  · rename_i ns i
    cases SR.isInt S
    split at e
    · rename_i c hc
      cases e
      have := S.drop.head
      cases this with
      | scr q =>
        refine .inl ⟨_, _, i, .int c, rfl, rfl, .inl (.inr ⟨_, q⟩), ?_, k _ H S.drop.drop.int⟩
        obtain ⟨j, h1, h2, _⟩ := atI_get hc
        unfold atI at hc ⊢
        rw [List.length_map]
        cases hj : ixN ns.length i with
        | none => rw [hj] at hc; cases hc
        | some j =>
          rw [hj] at hc
          have hc : ns[j]? = some c := hc
          show (ns.map V.int)[j]? = some (V.int c)
          rw [List.getElem?_map, hc]
          rfl
    · cases e
  · cases e
theorem fe_ix {fa fb : FEnv → Res D} (ha : FE X H0 Ex a fa) (hb : FE X H0 Ex b fb) (hs : PlainIx b := by intro _ _; rfl) : FE X H0 Ex (.Subscript a b pos) (f2 dIx fa fb) := fe_ixOf fi_seq dIx_noX ha hb hs
theorem tvs_held {us : List V} {es : List D} {ts : List (V × D)} (h : us.length = es.length) : tvs (held us es ts) = hv us ++ tvs ts := by
  have : (us.zip es).map (fun t => some t.1) = us.map some := by
    induction us generalizing es with
    | nil => rfl
    | cons u us ih =>
      cases es with
      | nil => simp at h
      | cons e es => simp [ih (es := es) (by simpa using h)]
  simp [tvs, held, hv, ← this]
theorem tds_held {us : List V} {es : List D} {ts : List (V × D)} (h : us.length = es.length) : tds (held us es ts) = hd es ++ tds ts := by
  have : (us.zip es).map (fun t => some t.2) = es.map some := by
    induction us generalizing es with
    | nil =>
      cases es with
      | nil => rfl
      | cons e es => simp at h
    | cons u us ih =>
      cases es with
      | nil => simp at h
      | cons e es => simp [ih (es := es) (by simpa using h)]
  simp [tds, held, hd, ← this]
theorem SX.held {Hs H0 H : Hp} {us : List V} {es : List D} {ts : List (V × D)} {σ : St} {ρ : FEnv} (h : us.length = es.length) (S : SX Hs H0 H (held us es ts) σ ρ) : SR Hs H0 H (hv us ++ (tvs ts ++ σ)) (hd es ++ (tds ts ++ ρ)) := by
  unfold SX at S
  rw [tvs_held h, tds_held h, List.append_assoc, List.append_assoc] at S
  exact S
def faNil : FEnv → Res (List D) := fun _ => .ok []
def faCons (f : FEnv → Res D) (g : FEnv → Res (List D)) : FEnv → Res (List D) := fun ρ => f ρ >>= fun d => g ρ >>= fun ds => .ok (d :: ds)
theorem fa_nil : FA X H0 Ex [] faNil := by
  refine ⟨PA.pre pa_nil ?_⟩
  rintro σ H Q ⟨Hs, ρ, ts, S, p⟩
  exact p [] H rfl S
theorem fa_cons {es : List Expr} {fe : FEnv → Res D} {fs : FEnv → Res (List D)} (he : FE X H0 Ex e fe) (hr : FA X H0 Ex es fs) (hs : starEach (e :: es) X.env = (false, eval e X.env) :: starEach es X.env := by rfl) : FA X H0 Ex (e :: es) (faCons fe fs) := by
  refine ⟨PA.pre (pa_cons he.go hr.go hs) ?_⟩
  rintro σ H Q ⟨Hs, ρ, ts, S, p⟩
  refine ⟨Hs, ρ, ts, S, (Post.bind p).imp fun d _ p1 v H1 S1 => ⟨Hs, ρ, (v, d) :: ts, S1, (Post.bind p1).imp fun ds _ p2 us H2 hl S2 => ?_⟩⟩
  refine p2 (v :: us) H2 (by simp [hl]) ?_
  have : held (v :: us) (d :: ds) ts = held us ds ((v, d) :: ts) := by simp [held]
  rw [this]
  exact S2
def nb (es : List D) : Bool := es.all fun e => !(e.tag == .b)
theorem nb_mem {es : List D} (h : nb es = true) : ∀ e ∈ es, e.tag ≠ .b := fun e m => by
  have := List.all_eq_true.mp h e m
  simpa using this
def fLst (fa : FEnv → Res (List D)) : FEnv → Res D := fun ρ => fa ρ >>= fun es => if nb es && decide (es.length ≤ sizeLine) then .ok (.lst .o es) else .bad
def fTup (fa : FEnv → Res (List D)) : FEnv → Res D := fun ρ => fa ρ >>= fun es => if nb es && decide (es.length ≤ sizeLine) then .ok (.tup (D.fzs es)) else .bad
theorem fe_lst {es : List Expr} {fa : FEnv → Res (List D)} (h : FA X H0 Ex es fa) : FE X H0 Ex (.List es pos) (fLst fa) := by
  refine ⟨PE.pre (pe_lst h.go) ?_⟩
  rintro σ H Q ⟨Hs, ρ, ts, S, p⟩
  refine ⟨Hs, ρ, ts, S, (Post.bind p).imp fun ds _ p1 us H1 hl S1 => ?_⟩
  split at p1
  · rename_i hc
    simp at hc
    exact ⟨by rw [hl]; exact hc.2, fun q hq => p1 _ _ ((SX.held hl S1).mkList hl (nb_mem hc.1) hq)⟩
  · exact p1.elim
theorem fe_tup {es : List Expr} {fa : FEnv → Res (List D)} {x1} (h : FA X H0 Ex es fa) : FE X H0 Ex (.Tuple es x1 pos) (fTup fa) := by
  refine ⟨PE.pre (pe_tup h.go) ?_⟩
  rintro σ H Q ⟨Hs, ρ, ts, S, p⟩
  refine ⟨Hs, ρ, ts, S, (Post.bind p).imp fun ds _ p1 us H1 hl S1 => ?_⟩
  split at p1
  · rename_i hc
    simp at hc
    exact ⟨by rw [hl]; exact hc.2, fun q hq => p1 _ _ ((SX.held hl S1).mkTup hl (nb_mem hc.1) hq)⟩
  · exact p1.elim
structure FCall (X : Cx) (f : Value) (g : List D → Res D) : Prop where
  go : CallR X f fun us H Q => ∃ Hs H0 vs ds es d, us.length = es.length ∧
  SR Hs H0 H (hv us ++ vs) (hd es ++ ds) ∧ g es = .ok d ∧ ∀ v H', SR Hs H0 H' (some v :: vs) (some d :: ds) → Q v H'
theorem CallR.pre {f : Value} {r r' : List V → Hp → VK → Prop} (h : CallR X f r) (i : ∀ x H Q, r' x H Q → r x H Q) : CallR X f r' := fun pins s σ H x y Q I a q => h pins s σ H x y Q I a (i x H Q q)
def fCB (g : List D → Res D) (fa : FEnv → Res (List D)) : FEnv → Res D := fun ρ => fa ρ >>= g
theorem fcb_ok {H0 : Hp} {g : List D → Res D} {fa : FEnv → Res (List D)} (hg : ∀ es, noX (g es) = true) {σ : St} {H : Hp} {Q : VK} (h : TEF H0 Ex (fCB g fa) σ H Q) :
    tCB (fun us H Q => ∃ Hs H0 vs ds es d, us.length = es.length ∧ SR Hs H0 H (hv us ++ vs) (hd es ++ ds) ∧ g es = .ok d ∧ ∀ v H', SR Hs H0 H' (some v :: vs) (some d :: ds) → Q v H') (TAF H0 Ex fa) σ H Q := by
  obtain ⟨Hs, ρ, ts, S, p⟩ := h
  refine ⟨Hs, ρ, ts, S, (Post.bind p).imp fun es _ p1 us H1 hl S1 => ?_⟩
  have hn := hg es
  cases e : g es with
  | ok d => rw [e] at p1; exact ⟨Hs, H0, _, _, es, d, hl, SX.held hl S1, e, p1⟩
  | exc C => rw [e] at hn; cases hn
  | bad => rw [e] at p1; exact p1.elim
theorem fe_callB {id : String} {x : Str} {p : Pos} {es : List Expr} {g : List D → Res D} {fa : FEnv → Res (List D)} (hc : FCall X (.builtin id) g) (hn : ∀ es, noX (g es) = true) (hg : Gl X x) (hm : X.mg x = none) (hv : bootBuiltins x = some (.builtin id)) (ha : FA X H0 Ex (e :: es) fa)
    (hn' : x ≠ "__name__" := by decide) (hdb : (x == ("__debug__" : Str)) = false := by decide) (h1 : starEach (e :: es) X.env = (false, eval e X.env) :: starEach es X.env := by rfl) (h2 : (backTo pos (starEach es X.env)).any (·.1) = false := by rfl) : FE X H0 Ex (.Call (.Name x p) (e :: es) [] pos) (fCB g fa) :=
  ⟨PE.pre (pe_callB hc.go hg hm hv ha.go hn' hdb h1 h2) fun _ _ _ h => fcb_ok hn h⟩
end
end Mi
namespace Mi
open PySem PySem.Spec L2
open PyProof.Rows hiding St
inductive FOut where
  | nx (ρ : FEnv) | rt (d : D) | bk (ρ : FEnv) | ct (ρ : FEnv) | exc (C : Value) | bad
def SS (Hs H0 H : Hp) (σ : St) (ρ : FEnv) : Prop := SR Hs H0 H σ ρ ∧ noB ρ
def PostS (Hs H0 : Hp) (Ex : Value → Prop) (D : Ends) (r : FOut) : Prop :=
  match r with
  | .nx ρ => ∀ σ H, SS Hs H0 H σ ρ → D.nx σ H
  | .rt d => ∀ v H, SR Hs H0 H [some v] [some d] → D.rt v H
  | .bk ρ => ∀ σ H, SS Hs H0 H σ ρ → D.bk σ H
  | .ct ρ => ∀ σ H, SS Hs H0 H σ ρ → D.ct σ H
  | .exc C => Ex C
  | .bad => False
def TSF (H0 : Hp) (Ex : Value → Prop) (g : FEnv → FOut) : TS := fun D σ H => ∃ Hs ρ, SS Hs H0 H σ ρ ∧ PostS Hs H0 Ex D (g ρ)
structure FS (X : Cx) (H0 : Hp) (Ex : Value → Prop) (st : Stmt) (g : FEnv → FOut) : Prop where
  go : PS X st (TSF H0 Ex g)
structure FSs (X : Cx) (H0 : Hp) (Ex : Value → Prop) (st : List Stmt) (g : FEnv → FOut) : Prop where
  go : PSs X st (TSF H0 Ex g)
def aft {α : Type} (r : Res α) (k : α → FOut) : FOut :=
  match r with
  | .ok a => k a
  | .exc C => .exc C
  | .bad => .bad
theorem PostS.aft {α : Type} {Hs H0 : Hp} {Ex : Value → Prop} {D : Ends} {r : Res α} {k : α → FOut} (h : PostS Hs H0 Ex D (aft r k)) : Post Ex r fun a => PostS Hs H0 Ex D (k a) := by
  cases r with
  | ok a => exact h
  | exc C => exact h
  | bad => exact h
section
variable {X : Cx} {Ex : Value → Prop} {H0 : Hp} {e : Expr} {f : FEnv → Res D} {g g1 g2 : FEnv → FOut} {pos : Pos} {st : Stmt} {sts : List Stmt}
def gSkip : FEnv → FOut := fun ρ => .nx ρ
def gSeq (g1 g2 : FEnv → FOut) : FEnv → FOut := fun ρ => match g1 ρ with
  | .nx ρ' => g2 ρ'
  | r => r
theorem fss_nil : FSs X H0 Ex [] gSkip := ⟨PSs.pre pss_nil fun D σ H ⟨Hs, ρ, S, p⟩ => p σ H S⟩
theorem gseq_ok {H0 : Hp} {D : Ends} {σ : St} {H : Hp} (h : TSF H0 Ex (gSeq g1 g2) D σ H) : tSeq (TSF H0 Ex g1) (TSF H0 Ex g2) D σ H := by
  obtain ⟨Hs, ρ, S, p⟩ := h
  refine ⟨Hs, ρ, S, ?_⟩
  unfold gSeq at p
  cases e : g1 ρ with
  | nx ρ' => rw [e] at p; exact fun σ' H' S' => ⟨Hs, ρ', S', p⟩
  | rt d => rw [e] at p; exact p
  | bk ρ' => rw [e] at p; exact p
  | ct ρ' => rw [e] at p; exact p
  | exc C => rw [e] at p; exact p
  | bad => rw [e] at p; exact p
theorem fss_cons (h1 : FS X H0 Ex st g1) (h2 : FSs X H0 Ex sts g2) : FSs X H0 Ex (st :: sts) (gSeq g1 g2) := ⟨PSs.pre (pss_cons h1.go h2.go) fun _ _ _ h => gseq_ok h⟩
theorem fss_one (h1 : FS X H0 Ex st g1) : FSs X H0 Ex [st] g1 := ⟨pss_one h1.go⟩
def gDrop (f : FEnv → Res D) : FEnv → FOut := fun ρ => aft (f ρ) fun _ => .nx ρ
theorem fs_expr (he : FE X H0 Ex e f) (hs : swapsWith e none pos.line X.env = pure false := by rfl) : FS X H0 Ex (.Expr e pos) (gDrop f) := by
  refine ⟨PS.pre (ps_expr he.go hs) ?_⟩
  rintro D σ H ⟨Hs, ρ, ⟨S, n⟩, p⟩
  exact ⟨Hs, ρ, [], S, (PostS.aft p).imp fun d _ p1 v H1 S1 => p1 σ H1 ⟨S1.drop, n⟩⟩
def gRet (f : FEnv → Res D) : FEnv → FOut := fun ρ => aft (f ρ) fun d => if d.tag = .b then .bad else .rt d
theorem fs_ret (he : FE X H0 Ex e f) : FS X H0 Ex (.Return (some e) pos) (gRet f) := by
  refine ⟨PS.pre (ps_ret he.go) ?_⟩
  rintro D σ H ⟨Hs, ρ, ⟨S, n⟩, p⟩
  refine ⟨Hs, ρ, [], S, (PostS.aft p).imp fun d _ p1 v H1 S1 => ?_⟩
  split at p1
  · exact p1.elim
  · exact p1 v H1 (SR.only (vs' := []) (ds' := []) S1)
def gRetV (i : Nat) : FEnv → FOut := fun ρ => match ρ[i]? with
  | some (some d) => .rt d
  | _ => .bad
theorem fs_retV (i : Nat) {x : Str} {p' : Pos} (h : PV X (.Name x p') i) : FS X H0 Ex (.Return (some (.Name x p')) pos) (gRetV i) := by
  refine ⟨PS.pre (ps_ret h.go) ?_⟩
  rintro D σ H ⟨Hs, ρ, ⟨S, n⟩, p⟩
  unfold gRetV at p
  split at p
  · rename_i d hd
    obtain ⟨v, hv, S'⟩ := S.move hd (n d (List.mem_of_getElem? hd))
    exact ⟨v, hv, p v H (SR.only (vs' := []) (ds' := []) S')⟩
  · exact p.elim
def gIf (t : FEnv → Res Bool) (g1 g2 : FEnv → FOut) : FEnv → FOut := fun ρ => aft (t ρ) fun b => if b = true then g1 ρ else g2 ρ
theorem fs_if {c : Expr} {a b : List Stmt} {t : FEnv → Res Bool} (hc : FT X H0 Ex c t) (ha : FSs X H0 Ex a g1) (hb : FSs X H0 Ex b g2) : FS X H0 Ex (.If c a b pos) (gIf t g1 g2) := by
  refine ⟨PS.pre (ps_if hc.go ha.go hb.go) ?_⟩
  rintro D σ H ⟨Hs, ρ, ⟨S, n⟩, p⟩
  refine ⟨Hs, ρ, [], S, (PostS.aft p).imp fun b _ p1 H1 S1 => ?_⟩
  cases b with
  | true => rw [if_pos rfl] at p1 ⊢; exact ⟨Hs, ρ, ⟨S1, n⟩, p1⟩
  | false => rw [if_neg Bool.false_ne_true] at p1 ⊢; exact ⟨Hs, ρ, ⟨S1, n⟩, p1⟩
def gSet (i : Nat) (f : FEnv → Res D) : FEnv → FOut := fun ρ => aft (f ρ) fun d => if d.tag = .b ∨ ρ.length ≤ i then .bad else .nx (ρ.set i (some d))
theorem SR.set0 {Hs H0 H : Hp} {v : V} {d : D} {σ : St} {ρ : FEnv} (S : SX Hs H0 H [(v, d)] σ ρ) (t : d.tag ≠ .b) (n : noB ρ) {i : Nat} (hi : i < ρ.length) : SS Hs H0 H (σ.set i (some v)) (ρ.set i (some d)) :=
  ⟨SR.set S t hi, n.set fun d' e => by cases e; exact t⟩
theorem gset_ok {H0 : Hp} {i : Nat} {D : Ends} {σ : St} {H : Hp} (h : TSF H0 Ex (gSet i f) D σ H) : tAsg (TEF H0 Ex f) (gName i) D σ H := by
  obtain ⟨Hs, ρ, ⟨S, n⟩, p⟩ := h
  refine ⟨Hs, ρ, [], S, (PostS.aft p).imp fun d _ p1 v H1 S1 => ?_⟩
  split at p1
  · exact p1.elim
  · rename_i hc
    exact p1 _ H1 (SR.set0 S1 (fun z => hc (.inl z)) n (by omega))
theorem fs_set {i : Nat} {x : Str} {pos' : Pos} (hN : X.N.Nodup) (hi : X.N[i]? = some x) (hx : Loc X.env.scope x) (he : FE X H0 Ex e f) (hs : swapsWith e (some (.Name x pos')) pos.line X.env = pure false := by rfl) (hf : X.fn x = true ∨ X.env.scope.names.lookup x = some .local := by first | exact .inl rfl | exact .inr rfl | assumption) :
    FS X H0 Ex (.Assign [.Name x pos'] e pos) (gSet i f) := ⟨PS.pre (ps_set hN hi hx he.go hs hf) fun _ _ _ h => gset_ok h⟩
def fFz (f : FEnv → Res D) : FEnv → Res D := fun ρ => f ρ >>= fun d => if d.tag = .b then .bad else .ok d.fz
theorem fe_fz (he : FE X H0 Ex e f) : FE X H0 Ex e (fFz f) := by
  refine ⟨PE.pre he.go ?_⟩
  rintro σ H Q ⟨Hs, ρ, ts, S, p⟩
  refine ⟨Hs, ρ, ts, S, (Post.bind p).imp fun d _ p1 v H1 S1 => ?_⟩
  split at p1
  · exact p1.elim
  · rename_i hc
    exact p1 v H1 (SR.frz S1 hc)
def frzAt (i : Nat) (ρ : FEnv) : FEnv := match ρ[i]? with
  | some (some d) => ρ.set i (some d.fz)
  | _ => ρ
theorem SR.frzAt {Hs H0 H : Hp} {σ : St} {ρ : FEnv} (S : SR Hs H0 H σ ρ) (n : noB ρ) (i : Nat) : SS Hs H0 H σ (frzAt i ρ) := by
  unfold Mi.frzAt
  split
  · rename_i d hd
    obtain ⟨v, hv, S'⟩ := S.move hd (n d (List.mem_of_getElem? hd))
    have S1 := S'.frz (n d (List.mem_of_getElem? hd))
    have hi : i < ρ.length := (List.getElem?_eq_some_iff.mp hd).1
    have S2 := SR.set S1 (by rw [d.fz_tag]; decide) (i := i) (by simpa using hi)
    rw [List.set_set] at S2
    have hvi : σ.set i (some v) = σ := by
      obtain ⟨a, b⟩ := List.getElem?_eq_some_iff.mp hv
      rw [← b]; exact List.set_getElem_self a
    rw [hvi] at S2
    exact ⟨S2, n.set fun d' e => by cases e; rw [d.fz_tag]; decide⟩
  · exact ⟨S, n⟩
theorem fs_frz (i : Nat) (h : FS X H0 Ex st g) : FS X H0 Ex st (fun ρ => g (frzAt i ρ)) := by
  refine ⟨PS.pre h.go ?_⟩
  rintro D σ H ⟨Hs, ρ, ⟨S, n⟩, p⟩
  exact ⟨Hs, frzAt i ρ, S.frzAt n i, p⟩
end
end Mi
namespace L2
open PySem PySem.Spec PyProof.Rows
def clOf (cells : List (Str × Addr)) : List (Str × NameKind) → List (Str × Addr) → List (Str × Addr)
  | [], acc => acc
  | (n, k) :: r, acc => if k == .free then clOf cells r ((n, (cells.lookup n).getD 0) :: acc) else clOf cells r acc
theorem closureFor_clOf {scope : Scope} {env : Env} (h : ∀ x ∈ scope.names, x.2 = .free → ∃ c, env.cells.lookup x.1 = some c) : closureFor scope env = pure (clOf env.cells scope.names []) := by
  unfold closureFor
  have go : ∀ (names : List (Str × NameKind)) (acc : List (Str × Addr)), (∀ x ∈ names, x.2 = .free → ∃ c, env.cells.lookup x.1 = some c) →
      (forIn names acc (fun (x : Str × NameKind) (r : List (Str × Addr)) => (if (x.2 == NameKind.free) = true then (do let y ← cellOf env x.1; pure (ForInStep.yield ((x.1, y) :: r))) else pure (ForInStep.yield r) : Sem (ForInStep (List (Str × Addr))))) : Sem (List (Str × Addr))) = pure (clOf env.cells names acc) := by
    intro names
    induction names with
    | nil => intro acc _; rfl
    | cons x r ih =>
      intro acc hx
      obtain ⟨n, k⟩ := x
      rw [List.forIn_cons]
      unfold clOf
      cases hk : (k == NameKind.free) with
      | false =>
        simp only [hk, Bool.false_eq_true, if_false]
        exact ih acc fun y hy => hx y (List.mem_cons_of_mem _ hy)
      | true =>
        obtain ⟨c, hc⟩ := hx (n, k) List.mem_cons_self (by simpa using hk)
        simp only [hk, if_true, cellOf, hc, Option.getD_some]
        exact ih _ fun y hy => hx y (List.mem_cons_of_mem _ hy)
  have := go scope.names [] h
  simpa using this
theorem cellsFrom_app : ∀ (names : List (Str × NameKind)) (n : Nat) (acc : List (Str × Addr)), cellsFrom n names acc = cellsFrom n names [] ++ acc
  | [], _, _ => rfl
  | (x, k) :: r, n, acc => by
    unfold cellsFrom
    split
    · rw [cellsFrom_app r (n + 1) ((x, n) :: acc), cellsFrom_app r (n + 1) [(x, n)]]
      simp
    · exact cellsFrom_app r n acc
theorem cellsFrom_kind : ∀ (names : List (Str × NameKind)) (n : Nat) {x : Str} {c : Addr}, (x, c) ∈ cellsFrom n names [] → (x, NameKind.cell) ∈ names
  | [], _, _, _, h => by simp [cellsFrom] at h
  | (y, k) :: r, n, x, c, h => by
    unfold cellsFrom at h
    split at h
    · rename_i hk
      rw [cellsFrom_app] at h
      rcases List.mem_append.mp h with h | h
      · exact List.mem_cons_of_mem _ (cellsFrom_kind r (n + 1) h)
      · simp at h
        rw [h.1]
        have : k = .cell := by simpa using hk
        rw [this]
        exact List.mem_cons_self
    · exact List.mem_cons_of_mem _ (cellsFrom_kind r n h)
theorem clOf_mem (cells : List (Str × Addr)) : ∀ (names : List (Str × NameKind)) (acc : List (Str × Addr)) {x : Str} {c : Addr}, (x, c) ∈ clOf cells names acc → ((x, NameKind.free) ∈ names ∧ c = (cells.lookup x).getD 0) ∨ (x, c) ∈ acc
  | [], acc, x, c, h => .inr h
  | (n, k) :: r, acc, x, c, h => by
    unfold clOf at h
    split at h
    · rename_i hk
      rcases clOf_mem cells r _ h with ⟨a, b⟩ | h
      · exact .inl ⟨List.mem_cons_of_mem _ a, b⟩
      · rcases List.mem_cons.mp h with h | h
        · cases h
          have : k = .free := by simpa using hk
          rw [this]
          exact .inl ⟨List.mem_cons_self, rfl⟩
        · exact .inr h
    · rcases clOf_mem cells r _ h with ⟨a, b⟩ | h
      · exact .inl ⟨List.mem_cons_of_mem _ a, b⟩
      · exact .inr h
theorem clOf_has (cells : List (Str × Addr)) : ∀ (names : List (Str × NameKind)) (acc : List (Str × Addr)) {x : Str}, ((x, NameKind.free) ∈ names ∨ ∃ c, (x, c) ∈ acc) → ∃ c, (x, c) ∈ clOf cells names acc
  | [], acc, x, h => by
    rcases h with h | h
    · simp at h
    · exact h
  | (n, k) :: r, acc, x, h => by
    unfold clOf
    split
    · refine clOf_has cells r _ ?_
      rcases h with h | ⟨c, h⟩
      · rcases List.mem_cons.mp h with h | h
        · cases h; exact .inr ⟨_, List.mem_cons_self⟩
        · exact .inl h
      · exact .inr ⟨c, List.mem_cons_of_mem _ h⟩
    · rename_i hk
      refine clOf_has cells r _ ?_
      rcases h with h | ⟨c, h⟩
      · rcases List.mem_cons.mp h with h | h
        · cases h; exact absurd rfl hk
        · exact .inl h
      · exact .inr ⟨c, h⟩
theorem lookup_mem_some {α : Type} : ∀ {l : List (Str × α)} {x : Str} {c : α}, (x, c) ∈ l → ∃ c', l.lookup x = some c'
  | (k, v) :: r, x, c, h => by
    rw [List.lookup_cons]
    cases hb : x == k with
    | true => exact ⟨v, rfl⟩
    | false =>
      rcases List.mem_cons.mp h with h | h
      · cases h; simp at hb
      · exact lookup_mem_some h
theorem lookup_nodup {α : Type} : ∀ {l : List (Str × α)} {x : Str} {c : α}, (l.map (·.1)).Nodup → (x, c) ∈ l → l.lookup x = some c
  | (k, v) :: r, x, c, nd, h => by
    rw [List.lookup_cons]
    rw [List.map_cons] at nd
    obtain ⟨n1, n2⟩ := List.nodup_cons.mp nd
    rcases List.mem_cons.mp h with h1 | h1
    · cases h1; simp
    · have : (x == k) = false := by
        simp only [beq_eq_false_iff_ne]
        intro e
        exact n1 (e ▸ List.mem_map.mpr ⟨_, h1, rfl⟩)
      rw [this]
      exact lookup_nodup n2 h1
theorem lookup_app {α : Type} : ∀ (l r : List (Str × α)) (x : Str), (l ++ r).lookup x = (l.lookup x).or (r.lookup x)
  | [], r, x => by simp
  | (k, v) :: l, r, x => by
    rw [List.cons_append, List.lookup_cons, List.lookup_cons]
    cases hb : x == k with
    | true => rfl
    | false => exact lookup_app l r x
def cenvOf (X : Cx) (scope : Scope) (C : Addr) (cells : List (Str × Addr)) : Env :=
  { scope := relabel scope X.env, locals := C, globals := X.env.globals, cells := cells, qual := X.env.qual, func := none, code := X.env.code, frame := X.env.frame, builtins := X.env.builtins }
def compCx (X : Cx) (scope : Scope) (N : List Str) (C : Addr) (cells : List (Str × Addr)) (s0 : Shared) (H0 : Hp) (ex : List Addr) (pn : List (Addr × Obj)) : Cx where
  prog := X.prog
  w := X.w
  K := X.K
  mg := X.mg
  base := X.base
  A := X.A
  N := N
  s₀ := s0
  H₀ := H0
  env := cenvOf X scope C cells
  outer := X.stack
  stack := X.stack
  ex := ex
  fn := fun x => decide (scope.names.lookup x = some .cell)
  calm := X.calm
  pn := pn
  xe := fun _ _ => False
structure CompScope (X : Cx) (scope : Scope) (own : List Str) (cap : List (Str × Nat)) : Prop where
  kind : scope.kind = .function
  nd : (scope.names.map (·.1)).Nodup
  free : ∀ x ∈ scope.names, x.2 = .free → X.env.kindOf x.1 = some .cell ∨ X.env.kindOf x.1 = some .free
  capN : ∀ p ∈ cap, X.N[p.2]? = some p.1 ∧ scope.names.lookup p.1 = some .free
  ndN : (own ++ cap.map (·.1)).Nodup
theorem relabel_lookup {scope : Scope} {env : Env} (x : Str) : (relabel scope env).names.lookup x = match scope.names.lookup x with
    | some .free => if env.scope.kind == ScopeKind.function && env.kindOf x == some NameKind.cell then some .cell else some .free
    | k => k := by
  unfold relabel
  show List.lookup x (scope.names.map _) = _
  induction scope.names with
  | nil => rfl
  | cons p r ih =>
    obtain ⟨n, k⟩ := p
    rw [List.map_cons, List.lookup_cons, List.lookup_cons]
    have hfst : (if (k == NameKind.free && env.scope.kind == ScopeKind.function && env.kindOf n == some NameKind.cell) = true then (n, NameKind.cell) else (n, k)).1 = n := by split <;> rfl
    show (match x == (if (k == NameKind.free && env.scope.kind == ScopeKind.function && env.kindOf n == some NameKind.cell) = true then (n, NameKind.cell) else (n, k)).1 with | true => some (if (k == NameKind.free && env.scope.kind == ScopeKind.function && env.kindOf n == some NameKind.cell) = true then (n, NameKind.cell) else (n, k)).2 | false => _) = _
    rw [hfst]
    cases hx : x == n with
    | false => exact ih
    | true =>
      have e : x = n := by simpa using hx
      subst e
      cases k with
      | free =>
        cases hc : (env.scope.kind == ScopeKind.function && env.kindOf x == some NameKind.cell) with
        | true => simp only [beq_self_eq_true, Bool.true_and, hc, if_true]
        | false => simp only [beq_self_eq_true, Bool.true_and, hc, Bool.false_eq_true, if_false]
      | _ => rfl
end L2
namespace L2
open PySem PySem.Spec PyProof.Rows
theorem comp_newEnv {M : Model} {A : Around} {E : Value → Shared → Prop} {s : Shared} {scope : Scope} {g : Addr} {cl : List (Str × Addr)} {qual : Str} {env : Env} {Q : Env → Shared → Prop}
    (h : ∀ h' : Heap, h'.Ns s.heap.objs.size (fun _ => none) → (∀ b o, s.heap.get? b = some o → h'.get? b = some o) →
      (∀ x c, (x, c) ∈ cellsFrom (s.heap.objs.size + 1) scope.names [] → h'.IsCell c none ∧ s.heap.objs.size + 1 ≤ c) → ((cellsFrom (s.heap.objs.size + 1) scope.names []).Pairwise fun x y => x.2 ≠ y.2) →
      Q { scope, locals := s.heap.objs.size, globals := g, cells := cellsFrom (s.heap.objs.size + 1) scope.names cl, qual, func := none, code := env.code, frame := env.frame, builtins := env.builtins } { s with heap := h' }) :
    wpAny M A (newFunctionEnv scope g cl [] qual none .none (some env)) Q E s := by
  simp only [newFunctionEnv, Option.isSome_some, if_true]
  refine wpAny_bind (wpAny_alloc ?_)
  refine wpAny_bind (wpAny_layCells _ (fun name kind cells => by cases hkc : kind == NameKind.cell <;> simp [hkc]) _ _ _ _ ?_)
  have ok := cellsFrom_ok scope.names (s.heap.push { cls := .type "dict", data := .dict #[] }) (s.heap.objs.size + 1) [] ⟨fun _ _ hm => (nomatch hm), List.Pairwise.nil⟩ (by rw [Heap.size_push]; exact Nat.le_refl _)
  rw [Heap.size_push] at ok
  rw [show ({ s with heap := s.heap.push { cls := .type "dict", data := .dict #[] } } : Shared).heap.objs.size = s.heap.objs.size + 1 from Heap.size_push ..]
  refine wpAny_bind (wpAny_pure (wpAny_pure ?_))
  exact h _ ((Heap.Ns.new s.heap (.type "dict")).keeps (pushCells_keeps _ _)) (fun b o e => pushCells_keeps _ _ b o (Heap.get?_push_of_some _ e)) (fun x c m => ok.empty x c m) ok.apart
section
variable {X : Cx} {pins : List (Addr × Obj)} {σ : St} {H : Hp} {s : Shared} {scope : Scope} {own : List Str} {cap : List (Str × Nat)}
abbrev ccells (X : Cx) (scope : Scope) (n : Nat) : List (Str × Addr) := cellsFrom (n + 1) scope.names (clOf X.env.cells scope.names [])
theorem ccells_lookup (I : Inv X pins σ H s) (S : CompScope X scope own cap) {n : Nat} {x : Str} {c : Addr} (h : (ccells X scope n).lookup x = some c) :
    ((x, c) ∈ cellsFrom (n + 1) scope.names [] ∧ scope.names.lookup x = some .cell) ∨ (scope.names.lookup x = some .free ∧ X.env.cells.lookup x = some c) := by
  unfold ccells at h
  rw [cellsFrom_app, lookup_app] at h
  cases e : (cellsFrom (n + 1) scope.names []).lookup x with
  | some c' =>
    rw [e] at h
    cases h
    have m := PySem.mem_of_lookup e
    exact .inl ⟨m, lookup_nodup S.nd (cellsFrom_kind _ _ m)⟩
  | none =>
    rw [e] at h
    have h : (clOf X.env.cells scope.names []).lookup x = some c := h
    rcases clOf_mem _ _ _ (PySem.mem_of_lookup h) with ⟨a, b⟩ | a
    · have hk := lookup_nodup S.nd a
      obtain ⟨c', hc'⟩ := I.ok.has x (S.free _ a rfl)
      rw [hc'] at b
      exact .inr ⟨hk, by rw [hc', b]; rfl⟩
    · simp at a
theorem ccells_free (I : Inv X pins σ H s) (S : CompScope X scope own cap) {n : Nat} {x : Str} (h : scope.names.lookup x = some .free) : ∃ c, (ccells X scope n).lookup x = some c ∧ X.env.cells.lookup x = some c := by
  have m := PySem.mem_of_lookup h
  obtain ⟨c, hc⟩ := clOf_has X.env.cells scope.names [] (.inl m)
  obtain ⟨c', hc'⟩ := lookup_mem_some (l := ccells X scope n) (x := x) (c := c) (by unfold ccells; rw [cellsFrom_app]; exact List.mem_append_right _ hc)
  rcases ccells_lookup I S hc' with ⟨_, k⟩ | ⟨_, k⟩
  · rw [h] at k; cases k
  · exact ⟨c', hc', k⟩
theorem comp_inv {H3 : Hp} {h3 : Heap} (I : Inv X pins σ H s) (I3 : Inv X pins σ H3 { s with heap := h3 }) (kp3 : ∀ b o, s.heap.get? b = some o → h3.get? b = some o) (S : CompScope X scope own cap) {fp : List Addr} (u3 : Un (frs X.stack) fp H H3 s.heap h3)
    (hf : ∀ b ∈ fp, FpOk X pins H b) (he : ∀ b ∈ fp, ∃ o, s.heap.get? b = some o) {h' : Heap}
    (ns : h'.Ns h3.objs.size (fun _ => none)) (kp : ∀ b o, h3.get? b = some o → h'.get? b = some o)
    (cl : ∀ x c, (x, c) ∈ cellsFrom (h3.objs.size + 1) scope.names [] → h'.IsCell c none ∧ h3.objs.size + 1 ≤ c) (ap : (cellsFrom (h3.objs.size + 1) scope.names []).Pairwise fun x y => x.2 ≠ y.2) (hle : s.heap.objs.size ≤ h3.objs.size) :
    Inv (compCx X scope (own ++ cap.map (·.1)) h3.objs.size (ccells X scope h3.objs.size) s H fp (X.pn ++ pins)) [] (List.replicate own.length none ++ cap.map fun p => (σ[p.2]?).join) H3 { s with heap := h' } := by
  have low : ∀ x c, X.env.cells.lookup x = some c → c < s.heap.objs.size := fun x c e => let ⟨v, q⟩ := I.cell x c e; q.lt
  have fresh : ∀ a, h3.objs.size ≤ a → H3 a = none := fun a h => I3.hok.fresh h
  have notStk : ∀ b, b ≠ X.env.locals → b ∉ X.fs → b ∉ frs X.stack := fun b h1 h2 m => by
    rcases List.mem_cons.mp (I.stkSub b m) with e | e
    · exact h1 e
    · exact h2 e
  refine ⟨⟨I.ok.mod, S.kind, I.ok.glob, I.ok.blt, hle, fun x y c h1 h2 => ?_, fun x hx => ?_, fun x c hx h1 => ?_, I.ok.hd, I.ok.frames, .inl rfl, fun b hb => ⟨?_, fun x c h1 z => ?_⟩, fun b o e => I.bs b o e, Nat.le_trans I.ok.bsz I.sz, fun b o e hb => ?_, fun b hb => ?_, I.stack, fun b hb => I.stkFree b hb⟩,
    rfl, I.bare, u3.trans (Un.kept kp), ⟨_, ns, fun i x v h1 h2 hv3 => ?_⟩, fun x c h1 => ?_, fresh _ (Nat.le_refl _), fun x c h1 => ?_, fun p hp => ?_, I3.hok.kept kp, ?_⟩
  · -- one cell, one name
    rcases ccells_lookup I S h1 with ⟨m1, k1⟩ | ⟨k1, c1⟩ <;> rcases ccells_lookup I S h2 with ⟨m2, k2⟩ | ⟨k2, c2⟩
    · exact name_of_addr ap m1 m2
    · exact absurd (Nat.lt_of_lt_of_le (low y c c2) hle) (Nat.not_lt.mpr (Nat.le_of_succ_le (cl x c m1).2))
    · exact absurd (Nat.lt_of_lt_of_le (low x c c1) hle) (Nat.not_lt.mpr (Nat.le_of_succ_le (cl y c m2).2))
    · exact I.ok.inj x y c c1 c2
  · have hx : (relabel scope X.env).names.lookup x = some .cell ∨ (relabel scope X.env).names.lookup x = some .free := hx
    rw [relabel_lookup] at hx
    cases e : scope.names.lookup x with
    | none => rw [e] at hx; simp at hx
    | some k =>
      cases k with
      | free => obtain ⟨c, a, _⟩ := ccells_free (n := h3.objs.size) I S e; exact ⟨c, a⟩
      | cell =>
        have q := PySem.W.cellsFrom_some scope.names (h3.objs.size + 1) (clOf X.env.cells scope.names []) (.inl e)
        exact Option.isSome_iff_exists.mp q
      | _ => rw [e] at hx; simp at hx
  · have hx : scope.names.lookup x = some .cell := of_decide_eq_true hx
    rcases ccells_lookup I S h1 with ⟨m1, k1⟩ | ⟨k1, c1⟩
    · show s.heap.objs.size ≤ c
      have := (cl x c m1).2
      omega
    · rw [hx] at k1; cases k1
  · obtain ⟨o, e⟩ := he b hb
    exact Nat.ne_of_lt (Nat.lt_of_lt_of_le (Heap.lt_size e) hle)
  · subst z
    rcases ccells_lookup I S h1 with ⟨m1, k1⟩ | ⟨k1, c1⟩
    · obtain ⟨o, e⟩ := he c hb
      exact absurd (Nat.lt_of_lt_of_le (Heap.lt_size e) hle) (Nat.not_lt.mpr (Nat.le_of_succ_le (cl x c m1).2))
    · exact (hf c hb).2.2.2.2.1 x c c1 rfl
  · rcases (hf b hb).2.2.2.1 with z | z
    · exact I.ok.noex b o e z
    · exact absurd (Nat.lt_of_lt_of_le (Heap.lt_size e) (Nat.le_trans I.ok.bsz z)) (Nat.lt_irrefl _)
  · exact notStk b (hf b hb).2.1 (hf b hb).2.2.1
  · -- the names from around
    by_cases hi : i < own.length
    · rw [List.getElem?_append_left (by simpa using hi), List.getElem?_replicate] at h2
      split at h2 <;> cases h2
    · rw [List.getElem?_append_right (by simpa using hi)] at h2
      have h1 : (own ++ cap.map (·.1))[i]? = some x := h1
      rw [List.getElem?_append_right (by omega)] at h1
      rw [List.length_replicate] at h2
      rw [List.getElem?_map] at h1 h2
      cases e : cap[i - own.length]? with
      | none => rw [e] at h1; cases h1
      | some p =>
        rw [e] at h1 h2
        have e1 : p.1 = x := Option.some.inj h1
        subst e1
        have e2 : (σ[p.2]?).join = some v := Option.some.inj h2
        obtain ⟨hN, hk⟩ := S.capN p (List.mem_of_getElem? e)
        have e3 : σ[p.2]? = some (some v) := by
          cases q : σ[p.2]? with
          | none => rw [q] at e2; cases e2
          | some o => rw [q] at e2; rw [show o = some v from e2]
        obtain ⟨c, a1, a2⟩ := ccells_free (n := h3.objs.size) I S hk
        have hvis : X.env.kindOf p.1 = some .cell ∨ X.env.kindOf p.1 = some .free := S.free _ (PySem.mem_of_lookup hk) rfl
        obtain ⟨m, hn, hl⟩ := I.loc
        obtain ⟨u, r, l⟩ := hl p.2 p.1 v hN e3 (by rcases hvis with z | z; exact .inr (.inl z); exact .inr (.inr z))
        refine ⟨u, r, .inr ⟨?_, c, a1, ?_⟩⟩
        · show (relabel scope X.env).names.lookup p.1 = some .cell ∨ (relabel scope X.env).names.lookup p.1 = some .free
          rw [relabel_lookup, hk]
          cases hb : (X.env.scope.kind == ScopeKind.function && X.env.kindOf p.1 == some NameKind.cell) with
          | true => exact .inl (by simp [hb])
          | false => exact .inr (by simp [hb])
        · rcases l with ⟨z, _⟩ | ⟨_, c', b1, b2⟩
          · rcases hvis with y | y <;> rw [y] at z <;> cases z
          · rw [a2] at b1
            cases b1
            exact (b2.keeps kp3).keeps kp
  · rcases ccells_lookup I S h1 with ⟨m1, k1⟩ | ⟨k1, c1⟩
    · exact ⟨none, (cl x c m1).1⟩
    · obtain ⟨v, q⟩ := I.cell x c c1
      exact ⟨v, (q.keeps kp3).keeps kp⟩
  · rcases ccells_lookup I S h1 with ⟨m1, k1⟩ | ⟨k1, c1⟩
    · exact fresh c (by have := (cl x c m1).2; omega)
    · exact I3.freeC x c c1
  · have hp : p ∈ (X.pn ++ pins) ++ [] := hp
    rw [List.append_nil] at hp
    obtain ⟨a, b, c, d, e⟩ := I3.pin p hp
    exact ⟨kp _ _ a, b, Nat.ne_of_lt (Heap.lt_size a), notStk _ c d, e⟩
  · show _ = (own ++ cap.map (·.1)).length
    simp
end
end L2
namespace L2
open PySem PySem.Spec PyProof.Rows
section
variable {prog : Program} {w : World} {A : Around} {R : Result → Shared → Prop} {s : Shared}
theorem comp_loop {elt target iter : Expr} {ifs : List Expr} {scope : Scope} {pos : Pos} {it acc : Value} {env : Env} (I : Nat → Shared → Prop)
    (turn : ∀ n s, I n s → wpAny (model prog w) A (pyNext it) (fun r s₁ => match r with
      | none => R (.ok .next) s₁
      | some v => wpAny (model prog w) A (letOwnedTupleGo target it v) (fun _ s₁' => wpAny (model prog w) A (assign target env v) (fun _ s₂ =>
          wpAny (model prog w) A (forIn ifs true fun c r => if r = true then do let ok ← isTrue c env (eval c env); pure (ForInStep.yield ok) else pure (ForInStep.yield r)) (fun ok s₃ =>
            if ok = true then wpAny (model prog w) A (eval elt env) (fun x s₄ =>
              wpAny (model prog w) A (call (.builtin "list.append") [acc, x]) (fun _ s₅ => ∃ m, m < n ∧ I m s₅) (fun _ _ => False) s₄) (fun _ _ => False) s₃
            else ∃ m, m < n ∧ I m s₃) (fun _ _ => False) s₂) (fun _ _ => False) s₁') (fun _ _ => False) s₁) (fun _ _ => False) s)
    (n : Nat) (h : I n s) : codeAny (model prog w) A (.compLoop (.ListComp elt [⟨target, iter, ifs, 0⟩] scope pos) 0 it acc env) R s := by
  refine codeAny_loop rfl I (fun n s hI => ?_) n h
  show wpAny _ A ((compTurn (.ListComp elt [⟨target, iter, ifs, 0⟩] scope pos) 0 it acc env).onRaise (fun x => do noteFrame x env; theTreesLotGoes x)) _ _ s
  refine wpAny_noted ?_
  rw [compTurn_list]
  refine wpAny_bind (wpAny_standAt (wpAny_bind (wpAny_mono (turn n s hI) (fun r s₁ h₁ => ?_) fun _ _ h' => h'.elim)))
  cases r with
  | none => exact wpAny_pure h₁
  | some v =>
    refine wpAny_bind (wpAny_mono h₁ (fun _ s₁' h₁' => ?_) fun _ _ h' => h'.elim)
    refine wpAny_bind (wpAny_mono h₁' (fun _ s₂ h₂ => wpAny_bind (wpAny_mono h₂ (fun ok s₃ h₃ => ?_) fun _ _ h' => h'.elim)) fun _ _ h' => h'.elim)
    cases ok with
    | false => exact wpAny_pure ⟨rfl, h₃⟩
    | true =>
      exact wpAny_bind (wpAny_bind (wpAny_mono h₃ (fun x s₄ h₄ => wpAny_bind (wpAny_mono h₄ (fun _ s₅ h₅ => wpAny_pure (wpAny_pure ⟨rfl, h₅⟩)) fun _ _ h' => h'.elim)) fun _ _ h' => h'.elim))
end
end L2
namespace Mi
open PySem PySem.Spec L2
open PyProof.Rows hiding St
def Yl (B H : Hp) (x : V) (H' : Hp) (d : D) : Prop := d.tag = .f ∧ ((H' = H ∧ Rep B x d) ∨ ∃ p us ds, H p = none ∧ H' = upd H p (.tup us) ∧ x = .ref p ∧ d = .tup ds ∧ Reps B us ds)
def ItOk (J : It) (B : Hp) (items : List D) : Prop := ∀ H, Same B H → ∀ i, (∀ d, items[i]? = some d → J.go i H ∧ ∀ x H', J.yld i H x H' → Yl B H x H' d) ∧ (i = items.length → J.stop i H)
def TIF (H0 : Hp) (Ex : Value → Prop) (fi : FEnv → Res (List D)) : TI := fun σ H R => ∃ Hs ρ ts, SX Hs H0 H ts σ ρ ∧
  Post Ex (fi ρ) fun items => ∀ J H' Hf fp, ItOk J Hf items → Own Hf H' fp (tvs ts ++ σ) (tds ts ++ ρ) → Fine Hs H0 Hf H' fp → R J H'
structure FI (X : Cx) (H0 : Hp) (Ex : Value → Prop) (tg iter : Expr) (fi : FEnv → Res (List D)) : Prop where
  go : PI X tg iter (TIF H0 Ex fi)
theorem PI.pre {X : Cx} {tg e : Expr} {t t' : TI} (h : PI X tg e t) (i : ∀ σ H Q, t' σ H Q → t σ H Q) : PI X tg e t' := fun pins s σ H Q I q => h pins s σ H Q I (i σ H Q q)
def TGF (H0 : Hp) (gt : D → FEnv → Res FEnv) : TG := fun v σ H Q => ∃ Hs ρ d ts, SX Hs H0 H ((v, d) :: ts) σ ρ ∧ d.tag ≠ .b ∧ noB ρ ∧ Post (fun _ => False) (gt d ρ) fun ρ' => ∀ σ', SX Hs H0 H ts σ' ρ' → noB ρ' → Q σ' H
structure FG (X : Cx) (H0 : Hp) (tg : Expr) (gt : D → FEnv → Res FEnv) : Prop where
  go : PG X tg (TGF H0 gt)
structure MG (X : Cx) (tg : Expr) (i : Nat) : Prop where
  go : PG X tg (gName i)
structure Po (X : Cx) : Prop where
  go : PassesOwn (model X.prog X.w) X.A X.env X.xe
theorem PG.pre {X : Cx} {tg : Expr} {t t' : TG} (h : PG X tg t) (i : ∀ v σ H Q, t' v σ H Q → t v σ H Q) : PG X tg t' := fun pins s σ H v u Q I r q => h pins s σ H v u Q I r (i v σ H Q q)
theorem set_right {α : Type} : ∀ (l r : List α) (i : Nat) (x : α), (l ++ r).set (l.length + i) x = l ++ r.set i x
  | [], r, i, x => by simp
  | a :: l, r, i, x => by
    have e : (a :: l).length + i = (l.length + i) + 1 := by simp; omega
    rw [e, List.cons_append, List.set_cons_succ, set_right l r i x]
    rfl
theorem SX.set {Hs H0 H : Hp} {v : V} {d : D} {ts : List (V × D)} {σ : St} {ρ : FEnv} (S : SX Hs H0 H ((v, d) :: ts) σ ρ) (t : d.tag ≠ .b) {i : Nat} (hi : i < ρ.length) : SX Hs H0 H ts (σ.set i (some v)) (ρ.set i (some d)) := by
  have S' : SR Hs H0 H (some v :: (tvs ts ++ σ)) (some d :: (tds ts ++ ρ)) := S
  have := SR.set S' t (i := (tds ts).length + i) (by rw [List.length_append]; omega)
  rw [set_right, tds_len, ← tvs_len ts, set_right] at this
  exact this
section
variable {X : Cx} {Ex : Value → Prop} {H0 : Hp} {e iter tg : Expr} {f : FEnv → Res D} {pos : Pos}
def tgName (i : Nat) : D → FEnv → Res FEnv := fun d ρ => if ρ.length ≤ i then .bad else .ok (ρ.set i (some d))
theorem fg_name {i : Nat} {x : Str} (hN : X.N.Nodup) (hi : X.N[i]? = some x) (hx : Loc X.env.scope x) (hf : X.fn x = true ∨ X.env.scope.names.lookup x = some .local := by first | exact .inl rfl | exact .inr rfl | assumption) : FG X H0 (.Name x pos) (tgName i) := by
  refine ⟨PG.pre (pg_name hN hi hx hf) ?_⟩
  rintro v σ H Q ⟨Hs, ρ, d, ts, S, t, n, p⟩
  unfold tgName at p
  split at p
  · exact p.elim
  · exact p _ (SX.set S t (by omega)) (n.set fun d' e => by cases e; exact t)
def tgNames : List Nat → List D → FEnv → Res FEnv
  | [], [], ρ => .ok ρ
  | i :: is, d :: ds, ρ => if ρ.length ≤ i then .bad else tgNames is ds (ρ.set i (some d.asF))
  | _, _, _ => .bad
def TGFs (H0 : Hp) (is : List Nat) : TGs := fun vs σ H Q => ∃ Hs Hf fp ρ ds ts, Own Hf H fp (tvs ts ++ σ) (tds ts ++ ρ) ∧ Fine Hs H0 Hf H fp ∧ Reps Hf vs ds ∧ noB ρ ∧ Post (fun _ => False) (tgNames is ds ρ) fun ρ' => ∀ σ', SX Hs H0 H ts σ' ρ' → noB ρ' → Q σ' H
structure FGs (X : Cx) (H0 : Hp) (es : List Expr) (is : List Nat) : Prop where
  go : PGs X es (TGFs H0 is)
theorem itl_ok {K : PySem.W.Frag} {B : Hp} {a : Addr} {us : List V} {ds : List D} (h : B a = some (.lst us)) (R : Reps B us ds) (t : ∀ e ∈ ds, e.tag = .f) : ItOk (Itl K a) B ds := by
  intro H s i
  have hl := R.length
  refine ⟨fun d hd => ?_, fun hi => ⟨us, SqL.of (s _ _ h), by omega⟩⟩
  obtain ⟨u, hu, ru⟩ := R.get hd
  refine ⟨⟨us, u, SqL.of (s _ _ h), hu⟩, fun x H' ⟨e, y⟩ => ⟨t d (List.mem_of_getElem? hd), .inl ⟨e, ?_⟩⟩⟩
  have := y us (SqL.of (s _ _ h))
  rw [hu] at this
  cases this
  exact ru
def rints (lo : Int) (n : Nat) : List D := (List.range n).map fun (i : Nat) => D.int (lo + (i : Int))
theorem itr_ok {lo : Int} {n : Nat} {B : Hp} : ItOk (Itr lo n) B (rints lo n) := by
  intro H s i
  refine ⟨fun d hd => ?_, fun hi => (show n ≤ i from Nat.le_of_eq (by simpa [rints] using hi.symm))⟩
  simp only [rints, List.getElem?_map] at hd
  cases e : (List.range n)[i]? with
  | none => rw [e] at hd; cases hd
  | some j =>
    rw [e] at hd
    obtain ⟨h1, h2⟩ := List.getElem?_eq_some_iff.mp e
    simp at h1 h2
    subst h2
    have hd : D.int (lo + (i : Int)) = d := Option.some.inj hd
    subst hd
    exact ⟨h1, fun x H' ⟨e1, e2⟩ => ⟨rfl, .inl ⟨e1, by rw [e2]; exact .int⟩⟩⟩
def fiR1 (fa : FEnv → Res (List D)) : FEnv → Res (List D) := fun ρ => fa ρ >>= fun es => match es with
  | [.int j] => if decide (-(2 ^ 62) ≤ j) && decide (j < 2 ^ 62) then .ok (rints 0 j.toNat) else .bad
  | _ => .bad
theorem fi_range1 {a : Expr} {p : Pos} {fa : FEnv → Res (List D)} (hg : Gl X "range") (hm : X.mg "range" = none) (ha : FA X H0 Ex [a] fa) (hs : starEach [a] X.env = [(false, eval a X.env)] := by rfl) : FI X H0 Ex tg (.Call (.Name "range" p) [a] [] pos) (fiR1 fa) := by
  refine ⟨PI.pre (pi_range1 hg hm ha.go hs) ?_⟩
  rintro σ H R ⟨Hs, ρ, ts, S, p⟩
  refine ⟨Hs, ρ, ts, S, (Post.bind p).imp fun es _ p1 us H1 hl S1 => ?_⟩
  split at p1
  · rename_i j _
    split at p1
    · rename_i hc
      simp at hc
      obtain ⟨u, rfl⟩ : ∃ u, us = [u] := by
        cases us with
        | nil => simp at hl
        | cons u r => cases r with | nil => exact ⟨u, rfl⟩ | cons _ _ => simp at hl
      have S2 := SX.held hl S1
      simp [hv, hd] at S2
      cases SR.isInt S2
      obtain ⟨Hf, fp, O, F⟩ := S2.drop
      exact ⟨j, rfl, by omega, by omega, p1 _ H1 Hf fp itr_ok O F⟩
    · exact p1.elim
  · exact p1.elim
def forF (gt : D → FEnv → Res FEnv) (gb : FEnv → FOut) : List D → FEnv → FOut
  | [], ρ => .nx ρ
  | x :: xs, ρ => match gt x ρ with
    | .ok ρ1 => match gb ρ1 with
      | .nx ρ2 => forF gt gb xs ρ2
      | .ct ρ2 => forF gt gb xs ρ2
      | .bk ρ2 => .nx ρ2
      | r => r
    | _ => .bad
def gFor (fi : FEnv → Res (List D)) (gt : D → FEnv → Res FEnv) (gb : FEnv → FOut) : FEnv → FOut := fun ρ => aft (fi ρ) fun items => forF gt gb items ρ
theorem SR.base {Hs H0 Hf H1 H : Hp} {fp : List Addr} {vs : List (Option V)} {ds : List (Option D)} (F : Fine Hs H0 Hf H1 fp) (S : SR Hf H0 H vs ds) : SR Hs H0 H vs ds := by
  obtain ⟨Hg, fq, O, G⟩ := S
  refine ⟨Hg, fq, O, G.nd, G.own, G.fh, G.zh, F.sf.trans G.sf, fun a o e => ?_⟩
  rcases G.new a o e with ⟨o', z⟩ | z
  · exact F.new a o' z
  · exact .inr z
theorem PostS.base {Hs H0 Hf H1 : Hp} {fp : List Addr} (F : Fine Hs H0 Hf H1 fp) {D : Ends} {r : FOut} (p : PostS Hs H0 Ex D r) : PostS Hf H0 Ex D r := by
  cases r with
  | nx ρ => exact fun σ H S => p σ H ⟨SR.base F S.1, S.2⟩
  | rt d => exact fun v H S => p v H (SR.base F S)
  | bk ρ => exact fun σ H S => p σ H ⟨SR.base F S.1, S.2⟩
  | ct ρ => exact fun σ H S => p σ H ⟨SR.base F S.1, S.2⟩
  | exc C => exact p
  | bad => exact p
theorem SR.re {Hs H0 Hf H : Hp} {fp : List Addr} {vs : List (Option V)} {ds : List (Option D)} (O : Own Hf H fp vs ds) (F : Fine Hs H0 Hf H fp) : SR Hf H0 H vs ds :=
  ⟨Hf, fp, O, F.nd, F.own, F.fh, F.zh, Same.refl _, fun a o e => .inl ⟨o, e⟩⟩
theorem SR.yl {B H0 H H' : Hp} {vs : List (Option V)} {ds : List (Option D)} {x : V} {d : D} (S : SR B H0 H vs ds) (y : Yl B H x H' d) : SR B H0 H' (some x :: vs) (some d :: ds) := by
  obtain ⟨t, y⟩ := y
  obtain ⟨Hf, fp, O, F⟩ := S
  rcases y with ⟨rfl, r⟩ | ⟨p, us, es, hp, rfl, rfl, rfl, R⟩
  · exact ⟨Hf, [] ++ fp, .cons (.fz (r.mono F.sf) t) O, F⟩
  · have sf : Same Hf (upd Hf p (.tup us)) := fun b o e => by rw [upd_ne (ne_of_none e (F.fresh hp).1)]; exact e
    exact SR.laidF O F hp (.tup upd_same ((R.mono F.sf).mono sf)) rfl
theorem fs_for {body : List Stmt} {fi : FEnv → Res (List D)} {gt : D → FEnv → Res FEnv} {gb : FEnv → FOut} (hp : Po X) (hc : X.calm = true) (hi : FI X H0 Ex tg iter fi) (hg : FG X H0 tg gt) (hb : FSs X H0 Ex body gb)
    (hs : ∀ x, foldedSetIterable iter X.env x = pure x := by intro _; rfl) : FS X H0 Ex (.For tg iter body [] pos) (gFor fi gt gb) := by
  refine ⟨PS.pre (ps_for hp.go hc hi.go hg.go hb.go hs) ?_⟩
  rintro D σ H ⟨Hs, ρ, ⟨S, n⟩, p⟩
  refine ⟨Hs, ρ, [], S, (PostS.aft p).imp fun items _ p1 J H1 Hf fp ok O F => ?_⟩
  have p2 := PostS.base F p1
  refine ⟨fun i m σ H => m = items.length - i ∧ i ≤ items.length ∧ ∃ ρ', SS Hf H0 H σ ρ' ∧ PostS Hf H0 Ex D (forF gt gb (items.drop i) ρ'), ⟨items.length, by simp, Nat.zero_le _, ρ, ⟨SR.re O F, n⟩, by simpa using p2⟩, ?_⟩
  rintro i m σ H ⟨rfl, hi, ρ', ⟨S, n⟩, p⟩
  have sH : Same Hf H := let ⟨_, _, _, G⟩ := S; G.sf.trans G.fh
  obtain ⟨h1, h2⟩ := ok H sH i
  by_cases hlt : i < items.length
  · have hd : items[i]? = some items[i] := by simp [hlt]
    obtain ⟨go, yl⟩ := h1 _ hd
    have hdrop : items.drop i = items[i] :: items.drop (i + 1) := List.drop_eq_getElem_cons hlt
    rw [hdrop] at p
    unfold forF at p
    refine .inr ⟨go, fun σ' H' => ∃ ρ2, SS Hf H0 H' σ' ρ2 ∧ PostS Hf H0 Ex D (forF gt gb (items.drop (i + 1)) ρ2), fun σ' H' ⟨ρ2, S2, q2⟩ => ⟨items.length - (i + 1), by omega, rfl, hlt, ρ2, S2, q2⟩, fun x H' y => ?_⟩
    have S' := SR.yl S (yl x H' y)
    have t : items[i].tag ≠ .b := by rw [(yl x H' y).1]; decide
    refine ⟨Hf, ρ', items[i], [], S', t, n, ?_⟩
    cases e : gt items[i] ρ' with
    | exc C => rw [e] at p; exact p.elim
    | bad => rw [e] at p; exact p.elim
    | ok ρ1 =>
      rw [e] at p
      intro σ1 S1 n1
      refine ⟨Hf, ρ1, ⟨S1, n1⟩, ?_⟩
      dsimp only at p
      cases e2 : gb ρ1 with
      | nx ρ2 => rw [e2] at p; exact fun σ2 H2 S2 => ⟨ρ2, S2, p⟩
      | ct ρ2 => rw [e2] at p; exact fun σ2 H2 S2 => ⟨ρ2, S2, p⟩
      | bk ρ2 => rw [e2] at p; exact p
      | rt d => rw [e2] at p; exact p
      | exc C => rw [e2] at p; exact p
      | bad => rw [e2] at p; exact p
  · have e : i = items.length := by omega
    subst e
    rw [List.drop_length] at p
    exact .inl ⟨h2 rfl, p σ H ⟨S, n⟩⟩
end
end Mi
namespace Mi
open PySem PySem.Spec L2
open PyProof.Rows hiding St
structure FTs (X : Cx) (H0 : Hp) (ifs : List Expr) (ft : FEnv → Res Bool) : Prop where
  go : ∀ (pins : List (Addr × Obj)) (s : Shared) (σ : St) (H : Hp) (Q : Bool → Hp → Prop), Inv X pins σ H s → TTF H0 (fun _ => False) ft σ H Q →
  wpAny (model X.prog X.w) X.A (forIn ifs true fun c r => if r = true then do let ok ← isTrue c X.env (eval c X.env); pure (ForInStep.yield ok) else pure (ForInStep.yield r)) (TP X pins σ Q) X.xe s
def ftTrue : FEnv → Res Bool := fun _ => .ok true
theorem fts_nil {X : Cx} : FTs X H0 [] ftTrue := by
  refine ⟨?_⟩
  intro pins s σ H Q I h
  obtain ⟨Hs, ρ, ts, S, p⟩ := h
  exact wpAny_tests_nil ⟨H, I, p H S⟩
def compF (gt : D → FEnv → Res FEnv) (ft : FEnv → Res Bool) (fe : FEnv → Res D) : List D → FEnv → List D → Res (List D)
  | [], _, acc => .ok acc
  | x :: xs, ρ, acc => gt x ρ >>= fun ρ1 => ft ρ1 >>= fun b => if b = true then fe ρ1 >>= fun d => if d.tag = .b ∨ sizeLine ≤ acc.length then .bad else compF gt ft fe xs ρ1 (acc ++ [d]) else compF gt ft fe xs ρ1 acc
def capOf (ρ : FEnv) (j : Nat) : Option D := match ρ[j]? with
  | some (some d) => if d.tag = .f then some d else none
  | _ => none
def fCompX (own : Nat) (cap : List Nat) (fi : FEnv → Res (List D)) (gt : D → FEnv → Res FEnv) (ft : FEnv → Res Bool) (fe : FEnv → Res D) : FEnv → Res D := fun ρ =>
  fi ρ >>= fun items => match compF gt ft fe items (List.replicate own none ++ cap.map (capOf ρ)) [] with
    | .ok ds => .ok (.lst .o ds)
    | _ => .bad
theorem own_start {Hf H : Hp} {vs : List (Option V)} {ds : List (Option D)} {fp : List Addr} (O : Own Hf H fp vs ds) : ∀ (n : Nat) (cap : List Nat) (k : Nat), (∀ j ∈ cap, True) →
    Own Hf H [] (List.replicate n none ++ cap.map fun j => (vs[k + j]?).join) (List.replicate n none ++ cap.map fun j => capOf (ds.drop k) j)
  | 0, [], _, _ => .nil
  | 0, j :: cap, k, h => by
    have ih := own_start O 0 cap k fun _ _ => trivial
    simp only [List.replicate_zero, List.nil_append, List.map_cons] at ih ⊢
    unfold capOf
    rw [List.getElem?_drop]
    split
    · rename_i d hd
      split
      · rename_i t
        obtain ⟨v, hv, r⟩ := O.getV hd
        rw [hv]
        cases r with
        | fz r _ => exact Own.cons (fp := []) (.fz r t) ih
        | lst z _ _ => exact absurd t z
        | dic z _ _ => exact absurd t z
        | ins z _ _ => exact absurd t z
        | slf _ _ => cases t
      · exact .skip ih
    · exact .skip ih
  | n + 1, cap, k, h => by
    rw [List.replicate_succ, List.replicate_succ]
    exact .skip (own_start O n cap k h)
section
variable {elt target iter : Expr} {ifs : List Expr} {scope : Scope} {pos : Pos} {gt : D → FEnv → Res FEnv} {ft : FEnv → Res Bool} {fe : FEnv → Res D}
theorem comp_walk {Xc : Cx} (hc : Xc.calm = true) (hx : Xc.xe = fun _ _ => False) (iG : FG Xc Xc.H₀ target gt) (iT : FTs Xc Xc.H₀ ifs ft) (iE : FE Xc Xc.H₀ (fun _ => False) elt fe) {J : It} {fpi : List Addr} {it : Addr} {tn : Nat → Heap → Prop}
    (T : Turn Xc.prog Xc.w Xc.K target J fpi it tn) (stat : ∀ {H' : Hp}, (∀ b ∈ fpi, H' b = none) → ∀ b ∈ fpi, FpOk Xc [] H' b) {items : List D} {B : Hp} (ok : ItOk J B items) {out : List D} {Da : Addr} {R : Result → Shared → Prop}
    {σ0 : St} {H1 : Hp} {s1 : Shared} {ρ0 : FEnv} (I0 : Inv Xc [] σ0 H1 s1) (st : tn 0 s1.heap) (fr : ∀ b ∈ fpi, H1 b = none) (S0 : SR B Xc.H₀ H1 (some (.ref Da) :: σ0) (some (.lst .o []) :: ρ0)) (n0 : noB ρ0) (ho : compF gt ft fe items ρ0 [] = .ok out)
    (hR : ∀ σ' H' s', Inv Xc [] σ' H' s' → SR B Xc.H₀ H' [some (.ref Da)] [some (.lst .o out)] → R (.ok .next) s') :
    codeAny (model Xc.prog Xc.w) Xc.A (.compLoop (.ListComp elt [⟨target, iter, ifs, 0⟩] scope pos) 0 (.ref it) (.ref Da) Xc.env) R s1 := by
  refine comp_loop (fun n s' => ∃ i σ' H' ρ' acc, n = items.length - i ∧ i ≤ items.length ∧ Inv Xc [] σ' H' s' ∧ tn i s'.heap ∧ (∀ b ∈ fpi, H' b = none) ∧ SR B Xc.H₀ H' (some (.ref Da) :: σ') (some (.lst .o acc) :: ρ') ∧ noB ρ' ∧ compF gt ft fe (items.drop i) ρ' acc = .ok out)
    ?_ items.length ⟨0, σ0, H1, ρ0, [], by simp, Nat.zero_le _, I0, st, fr, S0, n0, by simpa using ho⟩
  rintro n s2 ⟨i, σ2, H2, ρ2, acc, rfl, hi, I2, st2, fr2, S2, n2, e2⟩
  have sB : Same B H2 := let ⟨_, _, _, G⟩ := S2; G.sf.trans G.fh
  obtain ⟨h1, h2⟩ := ok H2 sB i
  by_cases hlt : i < items.length
  · have hd : items[i]? = some items[i] := by simp [hlt]
    obtain ⟨go, yl⟩ := h1 _ hd
    have hdrop : items.drop i = items[i] :: items.drop (i + 1) := List.drop_eq_getElem_cons hlt
    rw [hdrop] at e2
    unfold compF at e2
    refine thn (T.item Xc rfl rfl rfl hc i [] s2 σ2 H2 (fun _ _ => False) I2 (stat fr2) st2 go) fun r s3 ⟨u, hr, h3⟩ => ?_
    subst hr
    refine thn h3 fun _ s4 ⟨x, H4, I4, r4, y4, st4, fr4⟩ => ?_
    have Y := yl x H4 y4
    have S4 : SX B Xc.H₀ H4 [(x, items[i]), (.ref Da, .lst .o acc)] σ2 ρ2 := SR.yl S2 Y
    have t4 : items[i].tag ≠ .b := by rw [Y.1]; decide
    have I4' := I4.pinned (stat fr4) (T.obj _ _ st4)
    cases eg : gt items[i] ρ2 with
    | exc C => rw [eg] at e2; cases e2
    | bad => rw [eg] at e2; cases e2
    | ok ρ3 =>
      rw [eg] at e2
      have e2 : (ft ρ3 >>= fun b => if b = true then fe ρ3 >>= fun d => if d.tag = .b ∨ sizeLine ≤ acc.length then .bad else compF gt ft fe (items.drop (i + 1)) ρ3 (acc ++ [d]) else compF gt ft fe (items.drop (i + 1)) ρ3 acc) = .ok out := e2
      have again : ∀ {σ7 : St} {H7 : Hp} {s7 : Shared} {ρ7 : FEnv} {acc' : List D}, Inv Xc ([] ++ pinsAt fpi s4.heap) σ7 H7 s7 → SR B Xc.H₀ H7 (some (.ref Da) :: σ7) (some (.lst .o acc') :: ρ7) → noB ρ7 → compF gt ft fe (items.drop (i + 1)) ρ7 acc' = .ok out →
          ∃ m, m < items.length - i ∧ ∃ i σ' H' ρ' acc, m = items.length - i ∧ i ≤ items.length ∧ Inv Xc [] σ' H' s7 ∧ tn i s7.heap ∧ (∀ b ∈ fpi, H' b = none) ∧ SR B Xc.H₀ H' (some (.ref Da) :: σ') (some (.lst .o acc) :: ρ') ∧ noB ρ' ∧ compF gt ft fe (items.drop i) ρ' acc = .ok out := fun {σ7 H7 s7 ρ7 acc'} I7 S7 n7 e7 => by
        refine ⟨items.length - (i + 1), by omega, i + 1, σ7, H7, ρ7, acc', rfl, hlt, I7.unpinned, T.keep _ _ _ st4 fun b hb o e => (I7.pin (b, o) (List.mem_append_right _ (List.mem_append_right _ (mem_pinsAt hb e)))).1, fun b hb => ?_, S7, n7, e7⟩
        obtain ⟨o, e, d⟩ := T.obj _ _ st4 b hb
        exact (I7.pin (b, o) (List.mem_append_right _ (List.mem_append_right _ (mem_pinsAt hb e)))).2.1
      refine wpAny_mono (iG.go _ s4 σ2 H4 x u (fun σ' H' => SX B Xc.H₀ H' [(.ref Da, .lst .o acc)] σ' ρ3 ∧ noB ρ3) I4' r4 ⟨B, ρ2, items[i], [(.ref Da, .lst .o acc)], S4, t4, n2, by rw [eg]; exact fun σ' S' n' => ⟨S', n'⟩⟩) (fun _ s5 ⟨σ5, H5, I5, S5, n5⟩ => ?_) (fun _ _ z => by rw [hx] at z; exact z)
      cases eb : ft ρ3 with
      | exc C => rw [eb] at e2; cases e2
      | bad => rw [eb] at e2; cases e2
      | ok b =>
        rw [eb] at e2
        refine wpAny_mono (iT.go _ s5 σ5 H5 (fun b' H' => b' = b ∧ SX B Xc.H₀ H' [(.ref Da, .lst .o acc)] σ5 ρ3) I5 ⟨B, ρ3, [(.ref Da, .lst .o acc)], S5, by rw [eb]; exact fun H' S' => ⟨rfl, S'⟩⟩) (fun b' s6 ⟨H6, I6, hb, S6⟩ => ?_) (fun _ _ z => by rw [hx] at z; exact z)
        subst hb
        cases b' with
        | false =>
          have e2 : compF gt ft fe (items.drop (i + 1)) ρ3 acc = .ok out := e2
          rw [if_neg Bool.false_ne_true]
          exact again I6 S6 n5 e2
        | true =>
          have e2 : (fe ρ3 >>= fun d => if d.tag = .b ∨ sizeLine ≤ acc.length then .bad else compF gt ft fe (items.drop (i + 1)) ρ3 (acc ++ [d])) = .ok out := e2
          rw [if_pos rfl]
          cases ed : fe ρ3 with
          | exc C => rw [ed] at e2; cases e2
          | bad => rw [ed] at e2; cases e2
          | ok d =>
            rw [ed] at e2
            have e2 : (if d.tag = .b ∨ sizeLine ≤ acc.length then .bad else compF gt ft fe (items.drop (i + 1)) ρ3 (acc ++ [d])) = Res.ok out := e2
            split at e2
            · cases e2
            · rename_i hcd
              refine wpAny_mono (iE.go _ s6 σ5 H6 (fun v H' => SX B Xc.H₀ H' [(v, d), (.ref Da, .lst .o acc)] σ5 ρ3) I6 ⟨B, ρ3, [(.ref Da, .lst .o acc)], S6, by rw [ed]; exact fun v H' S' => S'⟩) (fun uv s7 ⟨v, H7, I7, r7, S7⟩ => ?_) (fun _ _ z => by rw [hx] at z; exact z)
              have nn : noB (some (.lst .o acc) :: ρ3) := fun d' m => by
                rcases List.mem_cons.mp m with e | m
                · cases e; exact fun z => nomatch z
                · exact n5 d' m
              obtain ⟨p, us, hp, hH, hl, S8⟩ := SR.append (vs := some (.ref Da) :: σ5) (ds := some (.lst .o acc) :: ρ3) S7 (fun z => hcd (.inl z)) nn (i := 0) (xs := acc) rfl
              have hp : p = Da := by simpa using hp.symm
              subst hp
              refine wpAny_mono (mt_append (X := Xc) _ s7 σ5 H7 (.ref p) [v] (.ref p) [uv] (fun _ H' => H' = upd H7 p (.lst (us ++ [v]))) I7 rfl (.cons r7 .nil) ⟨p, us, v, rfl, rfl, hH, by rw [hl]; omega, rfl⟩) (fun _ s8 ⟨_, H8, I8, _, e8⟩ => ?_) (fun _ _ z => by rw [hx] at z; exact z)
              subst e8
              exact again I8 S8 n5 e2
  · have e : i = items.length := by omega
    subst e
    rw [List.drop_length] at e2
    have e2 : Res.ok acc = .ok out := e2
    cases e2
    refine thn (T.done Xc rfl rfl rfl hc _ [] s2 σ2 H2 (fun _ _ => False) I2 (stat fr2) st2 (h2 rfl)) fun r s3 ⟨hr, I3⟩ => ?_
    subst hr
    exact hR σ2 H2 s3 I3 (SR.only (vs' := []) (ds' := []) S2)
end
section
variable {X : Cx} {Ex : Value → Prop} {H0 : Hp} {elt target iter : Expr} {ifs : List Expr} {scope : Scope} {pos : Pos} {own : List Str} {cap : List (Str × Nat)}
theorem comp_block {pins : List (Addr × Obj)} {σ : St} {H Hf Hs : Hp} {s : Shared} {fp : List Addr} {ρ : FEnv} {ts : List (V × D)} {items : List D} {gt : D → FEnv → Res FEnv} {ft : FEnv → Res Bool} {fe : FEnv → Res D} {it : Addr} {fpi : List Addr} {tn : Nat → Heap → Prop} {J : It}
    (hc : X.calm = true) (CS : CompScope X scope own cap)
    (inner : ∀ C cells s0 H0 ex pn, (own ++ cap.map (·.1)).Nodup → FG (compCx X scope (own ++ cap.map (·.1)) C cells s0 H0 ex pn) H0 target gt ∧ FTs (compCx X scope (own ++ cap.map (·.1)) C cells s0 H0 ex pn) H0 ifs ft ∧ FE (compCx X scope (own ++ cap.map (·.1)) C cells s0 H0 ex pn) H0 (fun _ => False) elt fe)
    (I : Inv X pins σ H s) (T : Turn X.prog X.w X.K target J fpi it tn) (st : tn 0 s.heap) (hf : ∀ b ∈ fpi, FpOk X pins H b) (ok : ItOk J Hf items)
    (O : Own Hf H fp (tvs ts ++ σ) (tds ts ++ ρ)) (F : Fine Hs H0 Hf H fp) {out : List D} (ho : compF gt ft fe items (List.replicate own.length none ++ cap.map fun p => capOf ρ p.2) [] = .ok out)
    {RR : Value → Addr → Result → Shared → Prop}
    (hRR : ∀ D C s' H' m, s'.heap.Ns C m → s.heap.objs.size ≤ C → (∀ h'', Heap.SameBut C s'.heap h'' → Inv X pins σ H' { s' with heap := h'' } ∧ H' C = none) → SR Hf H H' [some (.ref D)] [some (.lst .o out)] → RR (.ref D) C (.ok .next) s') :
    wpAny (model X.prog X.w) X.A (newList []) (fun acc s₃ => wpAny (model X.prog X.w) X.A (newFunctionEnv scope X.env.globals (clOf X.env.cells scope.names []) [] X.env.qual none .none (some X.env)) (fun cenv s₄ =>
      codeAny (model X.prog X.w) X.A (.compStart (.ListComp elt [⟨target, iter, ifs, 0⟩] scope pos) 0 (.ref it) acc { cenv with scope := relabel scope X.env }) (RR acc cenv.locals) s₄) X.xe s₃) X.xe s := by
  have hfr : H s.heap.objs.size = none := I.hok.fresh (Nat.le_refl _)
  refine wpAny_newObj_type ?_ (by show ([] : List Value).toArray.size ≤ sizeLine; simp)
  -- the list
  have I3 : Inv X pins σ (upd H s.heap.objs.size (.lst [])) { s with heap := s.heap.push { cls := .type "list", dict := none, data := .seq ([] : List Value).toArray } } :=
    I.laid (t' := s.toks) (fun b u e => Heap.get?_push_of_some _ e) (Nat.le_refl _) ⟨Nat.zero_le _, [], 0, .nil, Heap.get?_push_size _ rfl⟩
  have kp3 : ∀ b o, s.heap.get? b = some o → (s.heap.push { cls := .type "list", dict := none, data := .seq ([] : List Value).toArray }).get? b = some o := fun b o e => Heap.get?_push_of_some _ e
  have hsz3 : (s.heap.push { cls := .type "list", dict := none, data := .seq ([] : List Value).toArray }).objs.size = s.heap.objs.size + 1 := Heap.size_push ..
  generalize s.heap.push { cls := .type "list", dict := none, data := .seq ([] : List Value).toArray } = h3 at I3 kp3 hsz3 ⊢
  have hle : s.heap.objs.size ≤ h3.objs.size := by rw [hsz3]; exact Nat.le_succ _
  refine comp_newEnv (s := { s with heap := h3 }) fun h' ns kp cl ap => ?_
  have he : ∀ b ∈ fpi, ∃ o, s.heap.get? b = some o := fun b hb => let ⟨o, e, _⟩ := T.obj 0 _ st b hb; ⟨o, e⟩
  have u3 : Un (frs X.stack) fpi H (upd H s.heap.objs.size (.lst [])) s.heap h3 := Un.laid kp3 (Nat.le_refl _) hfr
  have IC := comp_inv I I3 kp3 CS u3 hf he ns kp cl ap (by omega)
  obtain ⟨iG, iT, iE⟩ := inner h3.objs.size (ccells X scope h3.objs.size) s H fpi (X.pn ++ pins) CS.ndN
  -- the iterator stands apart
  have fpC : ∀ {H' : Hp}, (∀ b ∈ fpi, H' b = none) → ∀ b ∈ fpi, FpOk (compCx X scope (own ++ cap.map (·.1)) h3.objs.size (ccells X scope h3.objs.size) s H fpi (X.pn ++ pins)) [] H' b := fun {H'} hn b hb => by
    obtain ⟨o, e⟩ := he b hb
    refine ⟨hn b hb, ?_, ?_, .inl hb, fun x c hx z => ?_, fun p hp z => ?_⟩
    · exact Nat.ne_of_lt (Nat.lt_of_lt_of_le (Heap.lt_size e) hle)
    · show b ∉ frs X.stack
      intro m
      rcases List.mem_cons.mp (I.stkSub b m) with z | z
      · exact (hf b hb).2.1 z
      · exact (hf b hb).2.2.1 z
    · have hx : (ccells X scope h3.objs.size).lookup x = some c := hx
      subst z
      rcases ccells_lookup I CS hx with ⟨m1, k1⟩ | ⟨k1, c1⟩
      · exact absurd (Nat.lt_of_lt_of_le (Heap.lt_size e) hle) (Nat.not_lt.mpr (Nat.le_of_succ_le (cl x c m1).2))
      · exact (hf c hb).2.2.2.2.1 x c c1 rfl
    · have hp : p ∈ (X.pn ++ pins) ++ [] := hp
      rw [List.append_nil] at hp
      exact (hf b hb).2.2.2.2.2 p hp z
  have st' : tn 0 h' := T.keep _ _ _ (T.keep _ _ _ st fun b _ o e => kp3 b o e) fun b _ o e => kp b o e
  have fr' : ∀ b ∈ fpi, upd H s.heap.objs.size (.lst []) b = none := fun b hb => by
    obtain ⟨o, e⟩ := he b hb
    rw [upd_ne (Nat.ne_of_lt (Heap.lt_size e))]
    exact (hf b hb).1
  -- what is at hand in the block
  have O0 := own_start O own.length (cap.map (·.2)) (tds ts).length fun _ _ => trivial
  have F0 : Fine Hf H Hf H [] := ⟨List.nodup_nil, fun _ m => by simp at m, F.fh, Same.refl _, Same.refl _, fun a o e => .inl ⟨o, e⟩⟩
  have S0 : SR Hf H (upd H s.heap.objs.size (.lst [])) (some (.ref s.heap.objs.size) :: (List.replicate own.length none ++ cap.map fun p => (σ[p.2]?).join)) (some (.lst .o []) :: (List.replicate own.length none ++ cap.map fun p => capOf ρ p.2)) := by
    refine SR.laidL (us := []) (es := []) ?_ F0 .nil (fun _ m => by simp at m) hfr
    rw [List.map_map, List.map_map] at O0
    have e1 : (fun j => ((tvs ts ++ σ)[(tds ts).length + j]?).join) ∘ (fun (p : Str × Nat) => p.2) = fun p => (σ[p.2]?).join := by
      funext p
      show ((tvs ts ++ σ)[(tds ts).length + p.2]?).join = _
      rw [tds_len, ← tvs_len ts, ix_right]
    have e2 : (fun j => capOf ((tds ts ++ ρ).drop (tds ts).length) j) ∘ (fun (p : Str × Nat) => p.2) = fun p => capOf ρ p.2 := by
      funext p
      show capOf ((tds ts ++ ρ).drop (tds ts).length) p.2 = _
      rw [List.drop_left]
    rw [e1, e2] at O0
    exact O0
  have n0 : noB (List.replicate own.length none ++ cap.map fun p => capOf ρ p.2) := fun d m => by
    rcases List.mem_append.mp m with m | m
    · rw [List.mem_replicate] at m; cases m.2
    · obtain ⟨p, _, e⟩ := List.mem_map.mp m
      unfold capOf at e
      split at e
      · split at e
        · rename_i t; cases e; rw [t]; decide
        · cases e
      · cases e
  have loop := comp_walk (Xc := compCx X scope (own ++ cap.map (·.1)) h3.objs.size (ccells X scope h3.objs.size) s H fpi (X.pn ++ pins)) (elt := elt) (target := target) (iter := iter) (ifs := ifs) (scope := scope) (pos := pos) hc rfl iG iT iE T fpC ok IC st' fr' S0 n0 ho
    (R := RR (.ref s.heap.objs.size) h3.objs.size) (fun σ' H' s' I' S' => ?_)
  · exact codeAny_compStart_list loop (T.self X.A 0 _ _ _ st' loop)
  · obtain ⟨m, hn, _⟩ := I'.loc
    have hC : H' h3.objs.size = none := I'.free
    refine hRR _ _ s' H' m hn hle (fun h'' sb => ⟨?_, hC⟩) S'
    have un : Un (frs X.stack) fpi H H' s.heap s'.heap := I'.base
    have hos : s'.os = s.os := I'.os
    have un2 : Un (frs X.stack) fpi H H' s.heap h'' := by
      have hne : ∀ b o, s.heap.get? b = some o → b ≠ h3.objs.size := fun b o e => Nat.ne_of_lt (Nat.lt_of_lt_of_le (Heap.lt_size e) hle)
      refine ⟨fun b o e n hb hx => (sb.2 b (hne b o e)).trans (un.keep b o e n hb hx), fun b o e n hb hx => ?_, un.free, fun b o e hx => ?_, un.tups, un.frzs, un.tbls⟩
      · obtain ⟨sl, q⟩ := un.slot b o e n hb hx
        exact ⟨sl, (sb.2 b (hne b o e)).trans q⟩
      · obtain ⟨o', q⟩ := un.there b o e hx
        exact ⟨o', (sb.2 b (hne b o e)).trans q⟩
    have hok : HOk X.prog X.w H' h'' := fun b u e => by
      refine (I'.hok b u e).stay (fun c v hc q => (sb.2 c ?_).trans q) (fun _ q => q) fun _ _ q => q
      rintro rfl
      rcases hc with rfl | hc
      · rw [hC] at e; cases e
      · rw [hC] at hc; cases hc
    exact I.call' (s' := { s' with heap := h'' }) (ch := fpi) hos un2 hok I'.bare fun b hb => ⟨(hf b hb).2.2.2.1, (hf b hb).2.1, (hf b hb).2.2.2.2.1, (hf b hb).2.2.2.2.2⟩
theorem fe_comp {fi : FEnv → Res (List D)} {gt : D → FEnv → Res FEnv} {ft : FEnv → Res Bool} {fe : FEnv → Res D} (hc : X.calm = true) (CS : CompScope X scope own cap) (hi : FI X H0 Ex target iter fi)
    (inner : ∀ C cells s0 H0 ex pn, (own ++ cap.map (·.1)).Nodup → FG (compCx X scope (own ++ cap.map (·.1)) C cells s0 H0 ex pn) H0 target gt ∧ FTs (compCx X scope (own ++ cap.map (·.1)) C cells s0 H0 ex pn) H0 ifs ft ∧ FE (compCx X scope (own ++ cap.map (·.1)) C cells s0 H0 ex pn) H0 (fun _ => False) elt fe)
    (hs : ∀ x, foldedSetIterable iter X.env x = pure x := by intro _; rfl) : FE X H0 Ex (.ListComp elt [⟨target, iter, ifs, 0⟩] scope pos) (fCompX own.length (cap.map (·.2)) fi gt ft fe) := by
  refine ⟨?_⟩
  intro pins s σ H Q I h
  obtain ⟨Hs, ρ, ts, S, p⟩ := h
  rw [eval_ListComp]
  refine wpAny_comprehension_free (use := none) rfl hs (closureFor_clOf fun x hx hk => I.ok.has x.1 (CS.free x hx hk)) CS.kind (fun x hx hl => by rw [← hl]; exact lookup_nodup CS.nd hx) ?_
  refine thn (hi.go pins s σ H (fun J H' => ∃ Hf fp items, ItOk J Hf items ∧ Own Hf H' fp (tvs ts ++ σ) (tds ts ++ ρ) ∧ Fine Hs H0 Hf H' fp ∧ ∃ out, compF gt ft fe items (List.replicate own.length none ++ cap.map fun p => capOf ρ p.2) [] = .ok out ∧ ∀ v H', SX Hs H0 H' ((v, .lst .o out) :: ts) σ ρ → Q v H') I ⟨Hs, ρ, ts, S, ?_⟩) fun xv s1 h1 => thn h1 fun itv s2 h2 => ?_
  · unfold fCompX at p
    refine (Post.bind p).imp fun items _ p1 J H' Hf fp ok O F => ?_
    rw [List.map_map] at p1
    cases e : compF gt ft fe items (List.replicate own.length none ++ cap.map fun p => capOf ρ p.2) [] with
    | ok out =>
      have e' : compF gt ft fe items (List.replicate own.length none ++ cap.map (capOf ρ ∘ fun p => p.2)) [] = .ok out := e
      rw [e'] at p1
      exact ⟨Hf, fp, items, ok, O, F, out, e, p1⟩
    | exc C =>
      have e' : compF gt ft fe items (List.replicate own.length none ++ cap.map (capOf ρ ∘ fun p => p.2)) [] = .exc C := e
      rw [e'] at p1; exact p1.elim
    | bad =>
      have e' : compF gt ft fe items (List.replicate own.length none ++ cap.map (capOf ρ ∘ fun p => p.2)) [] = .bad := e
      rw [e'] at p1; exact p1.elim
  · obtain ⟨it, fpi, tn, J, H2, rfl, I2, T, st, hf, Hf, fp, items, ok, O, F, out, ho, k⟩ := h2
    refine comp_block (RR := fun acc C => compPost (model X.prog X.w) X.A X.xe none (EP X pins σ Q) acc C) hc CS inner I2 T st hf ok O F ho ?_
    intro Da C s' H' m hn hC hI S'
    refine ⟨m, hn, fun h'' sb => ?_⟩
    exact ⟨.ref Da, H', (hI h'' sb).1, rfl, k _ H' (SR.told O F S' (fun z => nomatch z))⟩
end
end Mi
namespace Mi
open PySem PySem.Spec L2
open PyProof.Rows hiding St
section
variable {X : Cx} {Ex : Value → Prop} {H0 : Hp} {elt target iter : Expr} {ifs : List Expr} {scope : Scope} {pos : Pos} {own : List Str} {cap : List (Str × Nat)}
theorem fs_setComp {i : Nat} {x : Str} {px pc : Pos} {fi : FEnv → Res (List D)} {gt : D → FEnv → Res FEnv} {ft : FEnv → Res Bool} {fe : FEnv → Res D} (hN : X.N.Nodup) (hi' : X.N[i]? = some x) (hx : Loc X.env.scope x) (hc : X.calm = true) (CS : CompScope X scope own cap) (hi : FI X H0 Ex target iter fi)
    (inner : ∀ C cells s0 H0 ex pn, (own ++ cap.map (·.1)).Nodup → FG (compCx X scope (own ++ cap.map (·.1)) C cells s0 H0 ex pn) H0 target gt ∧ FTs (compCx X scope (own ++ cap.map (·.1)) C cells s0 H0 ex pn) H0 ifs ft ∧ FE (compCx X scope (own ++ cap.map (·.1)) C cells s0 H0 ex pn) H0 (fun _ => False) elt fe)
    (hsw : swapsWith (.ListComp elt [⟨target, iter, ifs, 0⟩] scope pc) (some (.Name x px)) pos.line X.env = pure true := by rfl)
    (hf : X.fn x = true ∨ X.env.scope.names.lookup x = some .local := by first | exact .inl rfl | exact .inr rfl | assumption)
    (hs : ∀ x, foldedSetIterable iter X.env x = pure x := by intro _; rfl) : FS X H0 Ex (.Assign [.Name x px] (.ListComp elt [⟨target, iter, ifs, 0⟩] scope pc) pos) (gSet i (fCompX own.length (cap.map (·.2)) fi gt ft fe)) := by
  refine ⟨?_⟩
  intro pins s σ H En I h
  obtain ⟨Hs, ρ, ⟨S, n⟩, p⟩ := h
  rw [exec_Assign_Name_used _ _ _ _ hsw]
  refine wpAny_bind (wpAny_standAt (wpAny_bind ?_))
  show wpAny _ X.A (do let _ ← comprehension (.ListComp elt [⟨target, iter, ifs, 0⟩] scope pc) scope X.env _ (newList []) false (eval iter X.env) (some (assign (.Name x px) X.env))) _ _ s
  refine wpAny_bind (wpAny_mono (wpAny_comprehension_free (use := some (assign (.Name x px) X.env)) (Q := fun _ s' => SP X pins En .next s') rfl hs (closureFor_clOf fun x hx hk => I.ok.has x.1 (CS.free x hx hk)) CS.kind (fun x hx hl => by rw [← hl]; exact lookup_nodup CS.nd hx) ?_) (fun _ s' hq => wpAny_pure (wpAny_pure hq)) fun _ _ e => e)
  have p := PostS.aft p
  refine thn (hi.go pins s σ H (fun J H' => ∃ Hf fp items, ItOk J Hf items ∧ Own Hf H' fp σ ρ ∧ Fine Hs H0 Hf H' fp ∧ i < ρ.length ∧ ∃ out, compF gt ft fe items (List.replicate own.length none ++ cap.map fun p => capOf ρ p.2) [] = .ok out ∧ ∀ σ' H', SS Hs H0 H' σ' (ρ.set i (some (.lst .o out))) → En.nx σ' H') I ⟨Hs, ρ, [], S, ?_⟩) fun xv s1 h1 => thn h1 fun itv s2 h2 => ?_
  · unfold fCompX at p
    refine (Post.bind p).imp fun items _ p1 J H' Hf fp ok O F => ?_
    rw [List.map_map] at p1
    cases e : compF gt ft fe items (List.replicate own.length none ++ cap.map fun p => capOf ρ p.2) [] with
    | ok out =>
      have e' : compF gt ft fe items (List.replicate own.length none ++ cap.map (capOf ρ ∘ fun p => p.2)) [] = .ok out := e
      rw [e'] at p1
      have p1 : PostS Hs H0 Ex En (if (D.lst .o out).tag = .b ∨ ρ.length ≤ i then .bad else .nx (ρ.set i (some (.lst .o out)))) := p1
      split at p1
      · exact p1.elim
      · rename_i hcc
        refine ⟨Hf, fp, items, ok, O, F, ?_, out, e, p1⟩
        by_cases hl : ρ.length ≤ i
        · exact absurd (.inr hl) hcc
        · omega
    | exc C =>
      have e' : compF gt ft fe items (List.replicate own.length none ++ cap.map (capOf ρ ∘ fun p => p.2)) [] = .exc C := e
      rw [e'] at p1; exact p1.elim
    | bad =>
      have e' : compF gt ft fe items (List.replicate own.length none ++ cap.map (capOf ρ ∘ fun p => p.2)) [] = .bad := e
      rw [e'] at p1; exact p1.elim
  · obtain ⟨it, fpi, tn, J, H2, rfl, I2, T, st, hf2, Hf, fp, items, ok, O, F, hil, out, ho, k⟩ := h2
    refine comp_block (ts := []) (RR := fun acc C => compPost (model X.prog X.w) X.A X.xe (some (assign (.Name x px) X.env)) (fun _ s' => SP X pins En .next s') acc C) hc CS inner I2 T st hf2 ok O F ho ?_
    intro Da C s' H' m hn hC hI S'
    have I' : Inv X pins σ H' s' := (hI s'.heap (Heap.SameBut.refl ..)).1
    have hHC : H' C = none := (hI s'.heap (Heap.SameBut.refl ..)).2
    have S'' : SX Hs H0 H' [(.ref Da, .lst .o out)] σ ρ := SR.told O F S' (fun z => nomatch z)
    have hCL : C ≠ X.env.locals := Nat.ne_of_gt (Nat.lt_of_lt_of_le I2.lt hC)
    have hCc : ∀ y c, X.env.cells.lookup y = some c → c ≠ C := fun y c e => by
      obtain ⟨v, q⟩ := I2.cell y c e
      exact Nat.ne_of_lt (Nat.lt_of_lt_of_le q.lt hC)
    show wpAny (model X.prog X.w) X.A (assign (.Name x px) X.env (.ref Da)) _ X.xe s'
    refine wpAny_assign_Name (store_ok2 (v := .ref Da) I' hN hi' hx rfl (fun s3 I3 ⟨a, sb, ha⟩ => ?_) hf)
    have hCa : C ≠ a := by
      rcases ha with ha | ha
      · rw [ha]; exact hCL
      · exact (hCc x a ha).symm
    refine ⟨m, hn.sameBut sb hCa, fun h'' sb2 => ?_⟩
    refine ⟨_, H', I3.turned (t' := s3.toks) (it := C) (fun b o hb e => (sb2.2 b hb).trans e) hHC hCL (.inr (Nat.le_trans I2.sz hC)) hCc (fun p hp => ?_), k _ H' (SR.set0 S'' (fun z => nomatch z) n hil)⟩
    exact Nat.ne_of_lt (Nat.lt_of_lt_of_le (Heap.lt_size (I2.pin p hp).1) hC)
theorem fs_thenF {st : Stmt} {g : FEnv → FOut} (i : Nat) (h : FS X H0 Ex st g) : FS X H0 Ex st (fun ρ => match g ρ with | .nx ρ' => .nx (frzAt i ρ') | r => r) := by
  refine ⟨PS.pre h.go ?_⟩
  rintro En σ H ⟨Hs, ρ, S, p⟩
  refine ⟨Hs, ρ, S, ?_⟩
  dsimp only at p
  cases e : g ρ with
  | nx ρ' => rw [e] at p; exact fun σ' H' S' => p σ' H' (S'.1.frzAt S'.2 i)
  | rt d => rw [e] at p; exact p
  | bk ρ' => rw [e] at p; exact p
  | ct ρ' => rw [e] at p; exact p
  | exc C => rw [e] at p; exact p
  | bad => rw [e] at p; exact p
theorem fs_setF {st : Stmt} {f : FEnv → Res D} {i : Nat} (h : FS X H0 Ex st (gSet i f)) : FS X H0 Ex st (gSet i (fFz f)) := by
  have h1 := fs_thenF i h
  have : (fun ρ => match gSet i f ρ with | .nx ρ' => .nx (frzAt i ρ') | r => r) = gSet i (fFz f) := by
    funext ρ
    unfold gSet fFz
    cases f ρ with
    | bad => rfl
    | exc C => rfl
    | ok d =>
      show (match (if d.tag = .b ∨ ρ.length ≤ i then FOut.bad else .nx (ρ.set i (some d))) with | .nx ρ' => .nx (frzAt i ρ') | r => r) = aft (if d.tag = .b then .bad else .ok d.fz) _
      by_cases hb : d.tag = .b
      · rw [if_pos (.inl hb), if_pos hb]; rfl
      · rw [if_neg hb]
        show _ = (if d.fz.tag = .b ∨ ρ.length ≤ i then FOut.bad else .nx (ρ.set i (some d.fz)))
        by_cases hl : ρ.length ≤ i
        · rw [if_pos (.inr hl), if_pos (.inr hl)]
        · rw [if_neg (fun z => z.elim hb hl), if_neg (fun z => z.elim (by rw [d.fz_tag]; decide) hl)]
          show FOut.nx (frzAt i (ρ.set i (some d))) = _
          unfold frzAt
          rw [List.getElem?_set_self (by omega)]
          show FOut.nx ((List.set ρ i (some d)).set i (some d.fz)) = _
          rw [List.set_set]
  rw [this] at h1
  exact h1
end
def spF (n : Nat) (F : List D → Res D) : Sp := fun vs H Q E => ∃ Hs ds, ds.length = n ∧ Same Hs H ∧ Reps Hs vs ds ∧ (∀ d ∈ ds, d.tag = .f) ∧ match F ds with
  | .ok d => ∀ v H', SR Hs H H' [some v] [some d] → Q v H'
  | .exc C => ∀ H', Same H H' → E C none H'
  | .bad => False
def callF (F : List D → Res D) (es : List D) : Res D := match F (D.fzs es) with
  | .ok d => if (nb es = true ∧ d.tag ≠ .b) ∨ d.atom = true then .ok d else .bad
  | r => r
theorem SR.allRep {Hs H0 H : Hp} {vs : List (Option V)} {ds : List (Option D)} : ∀ {us : List V} {es : List D}, us.length = es.length → SR Hs H0 H (hv us ++ vs) (hd es ++ ds) → Reps H us es := by
  intro us
  induction us using List.reverseRecOn' with
  | nil => intro es hl S; cases es with | nil => exact .nil | cons a b => simp at hl
  | snoc us u ih =>
    intro es hl S
    cases es using List.reverseRecOn' with
    | nil => simp at hl
    | snoc es e =>
      rw [hv_snoc, hd_snoc] at S
      exact (ih (by simpa using hl) S.drop).append (.cons S.head .nil)
theorem atom_any {H H' : Hp} {v : V} {d : D} (h : Rep H v d) (a : d.atom = true) : Rep H' v d := by
  cases h <;> first | exact .non | exact .bl | exact .int | exact .str | cases a
theorem atom_tag {d : D} (a : d.atom = true) : d.tag = .f := by cases d <;> first | rfl | cases a
theorem fzs_len (es : List D) : (D.fzs es).length = es.length := by rw [D.fzs_map, List.length_map]
section
variable {X : Cx} {Ex : Value → Prop} {H0 : Hp} {CX : CXT} {k n : Nat} {f : Addr} {fd : FuncData} {ps : List Str} {F : List D → Res D} {x : Str} {p pos : Pos} {e : Expr} {es : List Expr}
abbrev Exk (H0 : Hp) (Ex : Value → Prop) : XK := fun C _ H' => Ex C ∧ Same H0 H'
theorem callF_ok {us : List V} {ds : List D} {Hs H1 : Hp} {ts : List (V × D)} {σ : St} {ρ : FEnv} {Q : VK} (hn : ds.length = n) (hl : us.length = ds.length) (S1 : SX Hs H0 H1 (held us ds ts) σ ρ) (p1 : Post Ex (callF F ds) fun d => ∀ v H', SX Hs H0 H' ((v, d) :: ts) σ ρ → Q v H') :
    spF n F us H1 Q (Exk H0 Ex) := by
  have S2 := SX.held hl S1
  unfold callF at p1
  cases eF : F (D.fzs ds) with
  | bad => rw [eF] at p1; exact p1.elim
  | exc C =>
    rw [eF] at p1
    exact ⟨H1, D.fzs ds, by rw [fzs_len]; exact hn, Same.refl _, (SR.allRep hl S2).fz, fzs_tag ds, by rw [eF]; exact fun H' s => ⟨p1, S2.same.trans s⟩⟩
  | ok d =>
    rw [eF] at p1
    have p1 : Post Ex (if (nb ds = true ∧ d.tag ≠ .b) ∨ d.atom = true then Res.ok d else .bad) fun d => ∀ v H', SX Hs H0 H' ((v, d) :: ts) σ ρ → Q v H' := p1
    split at p1
    · rename_i hc
      by_cases hb : nb ds = true ∧ d.tag ≠ .b
      · obtain ⟨Hf, fp, O, G, R⟩ := S2.frozen hl (nb_mem hb.1)
        exact ⟨Hf, D.fzs ds, by rw [fzs_len]; exact hn, G.fh, R, fzs_tag ds, by rw [eF]; exact fun v H' S' => p1 v H' (SR.told O G S' hb.2)⟩
      · have ha : d.atom = true := hc.resolve_left hb
        refine ⟨H1, D.fzs ds, by rw [fzs_len]; exact hn, Same.refl _, (SR.allRep hl S2).fz, fzs_tag ds, ?_⟩
        rw [eF]
        intro v H' S'
        have S3 : SX Hs H0 H1 ts σ ρ := by
          have : ∀ (us : List V) (ds : List D), us.length = ds.length → SR Hs H0 H1 (hv us ++ (tvs ts ++ σ)) (hd ds ++ (tds ts ++ ρ)) → SR Hs H0 H1 (tvs ts ++ σ) (tds ts ++ ρ) := by
            intro us
            induction us using List.reverseRecOn' with
            | nil => intro es hl S; cases es with | nil => exact S | cons a b => simp at hl
            | snoc us u ih =>
              intro es hl S
              cases es using List.reverseRecOn' with
              | nil => simp at hl
              | snoc es e => rw [hv_snoc, hd_snoc] at S; exact ih es (by simpa using hl) S.drop
          exact this us ds hl S2
        exact p1 v H' ((SR.grow S3 S'.same).atom (fun H => atom_any S'.head ha) (atom_tag ha))
    · exact p1.elim
theorem fe_call {fa : FEnv → Res (List D)} (G : FnOk X.prog X.w X.K X.mg X.base CX k f fd ps (spF n F)) (hr : Room k X.A) (hg : Gl X x) (hm : X.mg x = some (.ref f)) (hk : PySem.W.keepIn X.K (.ref f) = true) (hb : Binds X.K fd ps []) (hx : Passes CX X (Exk H0 Ex))
    (ha : FA X H0 Ex (e :: es) fa) (hn : (e :: es).length = n) (hdb : (x == ("__debug__" : Str)) = false := by decide) (he : starEach (e :: es) X.env = (false, eval e X.env) :: starEach es X.env := by rfl) (hpl : (backTo pos (starEach es X.env)).any (·.1) = false := by rfl) :
    FE X H0 Ex (.Call (.Name x p) (e :: es) [] pos) (fun ρ => fa ρ >>= fun ds => if ds.length = n then callF F ds else .bad) := by
  refine ⟨PE.pre (pe_call (dvs := []) (E := Exk H0 Ex) G hr hg hm hk hb .nil hx ha.go hdb he hpl) ?_⟩
  rintro σ H Q ⟨Hs, ρ, ts, S, p⟩
  refine ⟨Hs, ρ, ts, S, (Post.bind p).imp fun ds _ p1 us H1 hl S1 => ?_⟩
  split at p1
  · rename_i hds
    rw [List.append_nil]
    exact callF_ok hds hl S1 p1
  · exact p1.elim
def bodyF (N : Nat) (g : FEnv → FOut) (ds : List D) : Res D := match g (ds.map some ++ List.replicate (N - ds.length) none) with
  | .rt d => .ok d
  | .nx _ => .ok .non
  | .exc C => .exc C
  | _ => .bad
theorem own_frozen {Hs H : Hp} : ∀ {vs : List V} {ds : List D} (k : Nat), Reps Hs vs ds → (∀ d ∈ ds, d.tag = .f) → Own Hs H [] (vs.map some ++ List.replicate k none) (ds.map some ++ List.replicate k none)
  | _, _, 0, .nil, _ => .nil
  | _, _, k + 1, .nil, h => .skip (own_frozen k .nil h)
  | _, _, k, .cons r q, h => Own.cons (fp := []) (.fz r (h _ List.mem_cons_self)) (own_frozen k q fun d m => h d (List.mem_cons_of_mem _ m))
theorem Fun.okX {P : Program} {w : World} {K : PySem.W.Frag} {mg : Str → Option Value} {base : Heap} {x qual : Str} {st : Stmt} {f : Addr} {fd : FuncData} {N ps : List Str} {k : Nat} {sp : Sp} (F : Fun K x qual st f fd) (S : FnScope N ps (defScope st)) (len : ∀ vs H Q E, sp vs H Q E → vs.length = ps.length)
    (hbody : ∀ (cdv : Value) (A : Around) (outer : List Env) (s : Shared) (H : Hp) (vs : List V) (Q : VK) (E : XK), Room k (A.deeper (envOfC qual (defScope st) s.heap.objs.size f cdv)) → sp vs H Q E →
      ∃ t, PSs (cxOf CX P w K mg base N qual (defScope st) f cdv A outer s H E) (defBody st) t ∧ t { nx := fun _ H' => Q .non H', rt := Q } (start N vs) H) : FnOk P w K mg base CX (k + 1) f fd ps sp := by
  obtain ⟨oc, od, kV, doc, pm, an, cdv, ct, osl, rfl, lk, hcd⟩ := F.ex
  exact fn_of lk hcd S len fun A outer s H vs Q E hr hsp => hbody cdv A outer s H vs Q E hr hsp
theorem fn_body {P : Program} {w : World} {K : PySem.W.Frag} {mg : Str → Option Value} {base : Heap} {x qual : Str} {st : Stmt} {f : Addr} {fd : FuncData} {N ps : List Str} {k : Nat} {F : List D → Res D} (U : Fun K x qual st f fd) (S : FnScope N ps (defScope st))
    (hbody : ∀ (cdv : Value) (A : Around) (outer : List Env) (s : Shared) (H : Hp) (E : XK) (ds : List D), Room k (A.deeper (envOfC qual (defScope st) s.heap.objs.size f cdv)) → ds.length = ps.length → (∀ C, F ds = .exc C → ∀ H', Same H H' → E C none H') →
      ∃ g, FSs (cxOf CX P w K mg base N qual (defScope st) f cdv A outer s H E) H (fun C => F ds = .exc C) (defBody st) g ∧ F ds = bodyF N.length g ds) :
    FnOk P w K mg base CX (k + 1) f fd ps (spF ps.length F) := by
  refine Fun.okX U S (fun vs H Q E h => ?_) (fun cdv A outer s H vs Q E hr h => ?_)
  · obtain ⟨Hs, ds, hl, _, R, _⟩ := h
    rw [R.length]; exact hl
  · obtain ⟨Hs, ds, hl, sH, R, ht, p⟩ := h
    obtain ⟨g, hg, eF⟩ := hbody cdv A outer s H E ds hr hl (fun C eC H' sh => by rw [eC] at p; exact p H' sh)
    refine ⟨_, hg.go, Hs, ds.map some ++ List.replicate (N.length - ds.length) none, ⟨⟨Hs, [], ?_, List.nodup_nil, fun _ m => by simp at m, sH, Same.refl _, Same.refl _, fun a o e => .inl ⟨o, e⟩⟩, ?_⟩, ?_⟩
    · have := own_frozen (Hs := Hs) (H := H) (N.length - ds.length) R ht
      unfold L2.start
      rw [R.length]
      exact this
    · intro d m
      rcases List.mem_append.mp m with m | m
      · obtain ⟨d', m', e⟩ := List.mem_map.mp m
        cases e
        rw [ht d m']; decide
      · rw [List.mem_replicate] at m; cases m.2
    · unfold bodyF at eF
      cases eg : g (ds.map some ++ List.replicate (N.length - ds.length) none) with
      | rt d =>
        rw [eg] at eF
        have eF : F ds = .ok d := eF
        rw [eF] at p
        exact fun v H' S' => p v H' S'
      | nx ρ' =>
        rw [eg] at eF
        have eF : F ds = .ok .non := eF
        rw [eF] at p
        refine fun σ' H' S' => p .non H' ?_
        exact SR.only (vs' := []) (ds' := []) S'.1.non
      | exc C => rw [eg] at eF; exact eF
      | bk ρ' => rw [eg] at eF; have eF : F ds = .bad := eF; rw [eF] at p; exact p.elim
      | ct ρ' => rw [eg] at eF; have eF : F ds = .bad := eF; rw [eF] at p; exact p.elim
      | bad => rw [eg] at eF; have eF : F ds = .bad := eF; rw [eF] at p; exact p.elim
end
end Mi
namespace Mi
open PySem PySem.Spec L2
open PyProof.Rows hiding St
section
variable {X : Cx} {Ex : Value → Prop} {H0 : Hp} {a b c e : Expr} {rest : List Expr} {f fa fb fc : FEnv → Res D} {ta tb : FEnv → Res Bool} {pos : Pos}
def asB : D → Res Bool
  | .bl b => .ok b
  | _ => .bad
def ftB (f : FEnv → Res D) : FEnv → Res Bool := fun ρ => f ρ >>= asB
theorem asB_ok {d : D} {k : Bool → Prop} (p : Post Ex (asB d) k) : ∃ b, d = .bl b ∧ k b := by
  cases d with
  | bl b => exact ⟨b, rfl, p⟩
  | _ => exact p.elim
theorem ft_val (h : FE X H0 Ex e f) (he : ∀ whole, isTrue e X.env whole = (do let v ← whole; standAt e.pos; holding [v] (truthy v)) := by intro _; rfl) : FT X H0 Ex e (ftB f) := by
  refine ⟨PT.pre (pt_val h.go he) ?_⟩
  rintro σ H Q ⟨Hs, ρ, ts, S, p⟩
  refine ⟨Hs, ρ, ts, S, (Post.bind p).imp fun d _ p1 v H1 S1 => ?_⟩
  obtain ⟨b, rfl, k⟩ := asB_ok p1
  exact ⟨b, SR.isBl S1, k H1 S1.drop⟩
def ft2 (g : D → D → Res D) (fa fb : FEnv → Res D) : FEnv → Res Bool := fun ρ => f2 g fa fb ρ >>= asB
theorem ft_cmp {op : CmpOp} {g : D → D → Res D} (ho : FOp X (compareOp op) g) (hg : ∀ x y, noX (g x y) = true) (ha : FE X H0 Ex a fa) (hb : FE X H0 Ex b fb) (hm : behindInMarks op b = false) : FT X H0 Ex (.Compare a [op] [b] pos) (ft2 g fa fb) := by
  refine ⟨PT.pre (pt_cmpR ho.go ha.go hb.go hm) ?_⟩
  rintro σ H Q ⟨Hs, ρ, ts, S, p⟩
  refine f2_ok hg (op := compareOp op) ⟨Hs, ρ, ts, S, (Post.bind p).imp fun d _ p1 v H1 S1 => ?_⟩
  obtain ⟨b, rfl, k⟩ := asB_ok p1
  exact ⟨b, SR.isBl S1, k H1 S1.drop⟩
def ftNot (t : FEnv → Res Bool) : FEnv → Res Bool := fun ρ => t ρ >>= fun b => .ok (!b)
theorem ft_not (h : FT X H0 Ex a ta) : FT X H0 Ex (.UnaryOp .Not a pos) (ftNot ta) := by
  refine ⟨PT.pre (pt_not h.go) ?_⟩
  rintro σ H Q ⟨Hs, ρ, ts, S, p⟩
  exact ⟨Hs, ρ, ts, S, (Post.bind p).imp fun b _ p1 H1 S1 => p1 H1 S1⟩
structure FW (X : Cx) (H0 : Hp) (Ex : Value → Prop) (e : Expr) (f : FEnv → Res Bool) : Prop where
  go : PW X e (TTF H0 Ex f)
theorem PW.pre {t t' : TT} (h : PW X e t) (i : ∀ σ H Q, t' σ H Q → t σ H Q) : PW X e t' := fun wh pins s σ H Q I q => h wh pins s σ H Q I (i σ H Q q)
theorem FW.ft (h : FW X H0 Ex e ta) : FT X H0 Ex e ta := ⟨PW.pt h.go⟩
theorem fw_and1 (h : FT X H0 Ex a ta) : FW X H0 Ex (.BoolOp .And [a] pos) ta := ⟨pw_and1 h.go⟩
theorem fw_or1 (h : FT X H0 Ex a ta) : FW X H0 Ex (.BoolOp .Or [a] pos) ta := ⟨pw_or1 h.go⟩
def ftAnd (s t : FEnv → Res Bool) : FEnv → Res Bool := fun ρ => s ρ >>= fun b => if b = true then t ρ else .ok false
def ftOr (s t : FEnv → Res Bool) : FEnv → Res Bool := fun ρ => s ρ >>= fun b => if b = true then .ok true else t ρ
theorem fw_and (ha : FT X H0 Ex a ta) (hb : FW X H0 Ex (.BoolOp .And (b :: rest) pos) tb) : FW X H0 Ex (.BoolOp .And (a :: b :: rest) pos) (ftAnd ta tb) := by
  refine ⟨PW.pre (pw_and ha.go hb.go) ?_⟩
  rintro σ H Q ⟨Hs, ρ, ts, S, p⟩
  refine ⟨Hs, ρ, ts, S, (Post.bind p).imp fun b _ p1 H1 S1 => ?_⟩
  cases b with
  | true => rw [if_pos rfl] at p1 ⊢; exact ⟨Hs, ρ, ts, S1, p1⟩
  | false => rw [if_neg Bool.false_ne_true] at p1 ⊢; exact p1 H1 S1
theorem fw_or (ha : FT X H0 Ex a ta) (hb : FW X H0 Ex (.BoolOp .Or (b :: rest) pos) tb) : FW X H0 Ex (.BoolOp .Or (a :: b :: rest) pos) (ftOr ta tb) := by
  refine ⟨PW.pre (pw_or ha.go hb.go) ?_⟩
  rintro σ H Q ⟨Hs, ρ, ts, S, p⟩
  refine ⟨Hs, ρ, ts, S, (Post.bind p).imp fun b _ p1 H1 S1 => ?_⟩
  cases b with
  | true => rw [if_pos rfl] at p1 ⊢; exact p1 H1 S1
  | false => rw [if_neg Bool.false_ne_true] at p1 ⊢; exact ⟨Hs, ρ, ts, S1, p1⟩
def fAnd (s t : FEnv → Res D) : FEnv → Res D := fun ρ => s ρ >>= fun d => asB d >>= fun b => if b = true then t ρ else .ok (.bl false)
def fNot (s : FEnv → Res D) : FEnv → Res D := fun ρ => s ρ >>= fun d => asB d >>= fun b => .ok (.bl (!b))
theorem fe_one {op} (h : FE X H0 Ex a f) : FE X H0 Ex (.BoolOp op [a] pos) f := ⟨pe_one h.go⟩
theorem asB_bind {d : D} {α : Type} {g : Bool → Res α} {k : α → Prop} (p : Post Ex (asB d >>= g) k) : ∃ b, d = .bl b ∧ Post Ex (g b) k := by
  cases d with
  | bl b => exact ⟨b, rfl, p⟩
  | _ => exact p.elim
theorem fe_and (ha : FE X H0 Ex a fa) (hb : FE X H0 Ex (.BoolOp .And (b :: rest) pos) fb) : FE X H0 Ex (.BoolOp .And (a :: b :: rest) pos) (fAnd fa fb) := by
  refine ⟨PE.pre (pe_and ha.go hb.go) ?_⟩
  rintro σ H Q ⟨Hs, ρ, ts, S, p⟩
  refine ⟨Hs, ρ, ts, S, (Post.bind p).imp fun d _ p1 v H1 S1 => ?_⟩
  obtain ⟨b, rfl, k⟩ := asB_bind p1
  refine ⟨b, SR.isBl S1, ?_⟩
  cases b with
  | true => rw [if_pos rfl] at k ⊢; exact ⟨Hs, ρ, ts, S1.drop, k⟩
  | false => rw [if_neg Bool.false_ne_true] at k ⊢; exact k _ H1 S1.drop.bl
theorem fe_not (ha : FE X H0 Ex a fa) : FE X H0 Ex (.UnaryOp .Not a pos) (fNot fa) := by
  refine ⟨PE.pre (pe_not ha.go) ?_⟩
  rintro σ H Q ⟨Hs, ρ, ts, S, p⟩
  refine ⟨Hs, ρ, ts, S, (Post.bind p).imp fun d _ p1 v H1 S1 => ?_⟩
  obtain ⟨b, rfl, k⟩ := asB_bind p1
  exact ⟨b, SR.isBl S1, k _ H1 S1.drop.bl⟩
def dNeg : D → Res D
  | .int i => .ok (.int (-i))
  | _ => .bad
def f1 (g : D → Res D) (fa : FEnv → Res D) : FEnv → Res D := fun ρ => fa ρ >>= g
theorem fe_neg (ha : FE X H0 Ex a fa) : FE X H0 Ex (.UnaryOp .USub a pos) (f1 dNeg fa) := by
  refine ⟨PE.pre (pe_un un_neg ha.go) ?_⟩
  rintro σ H Q ⟨Hs, ρ, ts, S, p⟩
  refine ⟨Hs, ρ, ts, S, (Post.bind p).imp fun d _ p1 v H1 S1 => ?_⟩
  cases d with
  | int i => exact ⟨i, SR.isInt S1, p1 _ H1 S1.drop.int⟩
  | _ => exact p1.elim
theorem one_of {us : List V} {es : List D} {d : D} (hl : us.length = es.length) (h : es = [d]) : ∃ u, us = [u] := by
  subst h
  cases us with
  | nil => simp at hl
  | cons u r => cases r with | nil => exact ⟨u, rfl⟩ | cons _ _ => simp at hl
theorem two_of {us : List V} {es : List D} {d d' : D} (hl : us.length = es.length) (h : es = [d, d']) : ∃ u w, us = [u, w] := by
  subst h
  cases us with
  | nil => simp at hl
  | cons u r => cases r with | nil => simp at hl | cons w r => cases r with | nil => exact ⟨u, w, rfl⟩ | cons _ _ => simp at hl
def cLen : List D → Res D
  | [.lst _ xs] => .ok (.int xs.length)
  | [.tup xs] => .ok (.int xs.length)
  | [.str z] => if z.length ≤ sizeLine then .ok (.int z.length) else .bad
  | [.scr ns] => .ok (.int ns.length)
  | _ => .bad
theorem cLen_noX : ∀ es, noX (cLen es) = true := by
  intro es
  unfold cLen
  split <;> first | rfl | (split <;> rfl)
theorem fc_len : FCall X (.builtin "len") cLen := by
  refine ⟨CallR.pre (CallR.or call_len_seq call_len_str) ?_⟩
  rintro us H Q ⟨Hs, H0, vs, ds, es, d, hl, S, e, k⟩
  unfold cLen at e
  split at e
  · rename_i t xs
    obtain ⟨u, rfl⟩ := one_of hl rfl
    cases e
    have S' : SR Hs H0 H (some u :: vs) (some (.lst t xs) :: ds) := S
    have hh := S'.head
    cases hh with
    | lst q R => exact .inl ⟨_, _, rfl, .inl (SqL.of q), by rw [R.length]; exact k _ H S'.drop.int⟩
  · rename_i xs
    obtain ⟨u, rfl⟩ := one_of hl rfl
    cases e
    have S' : SR Hs H0 H (some u :: vs) (some (.tup xs) :: ds) := S
    have hh := S'.head
    cases hh with
    | tup q R => exact .inl ⟨_, _, rfl, .inr (SqT.of q), by rw [R.length]; exact k _ H S'.drop.int⟩
  · rename_i z
    obtain ⟨u, rfl⟩ := one_of hl rfl
    split at e
    · rename_i hz
      cases e
      have S' : SR Hs H0 H (some u :: vs) (some (.str z) :: ds) := S
      cases SR.isStr S'
      exact .inr ⟨z, rfl, hz, k _ H S'.drop.int⟩
    · cases e
  · rename_i ns
    obtain ⟨u, rfl⟩ := one_of hl rfl
    cases e
    have S' : SR Hs H0 H (some u :: vs) (some (.scr ns) :: ds) := S
    have hh := S'.head
    cases hh with
    | scr q => exact .inl ⟨_, _, rfl, .inl (.inl (.inr ⟨_, q⟩)), by rw [List.length_map]; exact k _ H S'.drop.int⟩
  · cases e
def cList : List D → Res D
  | [d] => match d.its with
    | some ys => .ok (.lst .o ys)
    | none => .bad
  | _ => .bad
theorem cList_noX : ∀ es, noX (cList es) = true := by
  intro es
  unfold cList
  split
  · split <;> rfl
  · rfl
theorem fc_list : FCall X (.type "list") cList := by
  refine ⟨CallR.pre call_list_of ?_⟩
  rintro us H Q ⟨Hs, H0, vs, ds, es, d, hl, S, e, k⟩
  unfold cList at e
  split at e
  · rename_i d1
    split at e
    · rename_i ys hy
      cases e
      obtain ⟨u, rfl⟩ := one_of hl rfl
      have S' : SR Hs H0 H (some u :: vs) (some d1 :: ds) := S
      obtain ⟨a, us, rfl, ha, Hf, fp, O, F, R⟩ := S'.items hy
      refine ⟨a, us, rfl, ?_, fun l hl => k _ _ (SR.laidL O F R (D.its_tag hy) hl)⟩
      cases hi : d1.isL with
      | true => rw [hi] at ha; exact .inl (SqL.of ha)
      | false => rw [hi] at ha; exact .inr (SqT.of ha)
    · cases e
  · cases e
theorem fe_callT {T : String} {x : Str} {p : Pos} {es : List Expr} {g : List D → Res D} {fa : FEnv → Res (List D)} (hc : FCall X (.type T) g) (hn : ∀ es, noX (g es) = true) (hg : Gl X x) (hm : X.mg x = none) (hv : bootBuiltins x = some (.type T)) (ha : FA X H0 Ex (e :: es) fa)
    (hn' : x ≠ "__name__" := by decide) (hdb : (x == ("__debug__" : Str)) = false := by decide) (h1 : starEach (e :: es) X.env = (false, eval e X.env) :: starEach es X.env := by rfl) (h2 : (backTo pos (starEach es X.env)).any (·.1) = false := by rfl) : FE X H0 Ex (.Call (.Name x p) (e :: es) [] pos) (fCB g fa) :=
  ⟨PE.pre (pe_callTy hc.go hg hm hv ha.go hn' hdb h1 h2) fun _ _ _ h => fcb_ok hn h⟩
def cMin2 : List D → Res D
  | [.int i, .int j] => .ok (.int (if j < i then j else i))
  | _ => .bad
def cMax2 : List D → Res D
  | [.int i, .int j] => .ok (.int (if j > i then j else i))
  | _ => .bad
theorem cMin2_noX : ∀ es, noX (cMin2 es) = true := by intro es; unfold cMin2; split <;> rfl
theorem cMax2_noX : ∀ es, noX (cMax2 es) = true := by intro es; unfold cMax2; split <;> rfl
theorem fc_min2 (hc : X.calm = true) : FCall X (.builtin "min") cMin2 := by
  refine ⟨CallR.pre (call_min2 hc) ?_⟩
  rintro us H Q ⟨Hs, H0, vs, ds, es, d, hl, S, e, k⟩
  unfold cMin2 at e
  split at e
  · rename_i i j
    cases e
    obtain ⟨u, w, rfl⟩ := two_of hl rfl
    have S' : SR Hs H0 H (some w :: some u :: vs) (some (.int j) :: some (.int i) :: ds) := S
    cases SR.isInt S'
    cases SR.isInt S'.drop
    exact ⟨i, j, rfl, k _ H S'.drop.drop.int⟩
  · cases e
theorem fc_max2 (hc : X.calm = true) : FCall X (.builtin "max") cMax2 := by
  refine ⟨CallR.pre (call_max2 hc) ?_⟩
  rintro us H Q ⟨Hs, H0, vs, ds, es, d, hl, S, e, k⟩
  unfold cMax2 at e
  split at e
  · rename_i i j
    cases e
    obtain ⟨u, w, rfl⟩ := two_of hl rfl
    have S' : SR Hs H0 H (some w :: some u :: vs) (some (.int j) :: some (.int i) :: ds) := S
    cases SR.isInt S'
    cases SR.isInt S'.drop
    exact ⟨i, j, rfl, k _ H S'.drop.drop.int⟩
  · cases e
def cInt : List D → Res D
  | [.int i] => .ok (.int i)
  | [.bl k] => .ok (.int (if k then 1 else 0))
  | _ => .bad
theorem cInt_noX : ∀ es, noX (cInt es) = true := by intro es; unfold cInt; split <;> rfl
theorem fc_int : FCall X (.type "int") cInt := by
  refine ⟨CallR.pre call_int1 ?_⟩
  rintro us H Q ⟨Hs, H0, vs, ds, es, d, hl, S, e, k⟩
  unfold cInt at e
  split at e
  · rename_i i
    cases e
    obtain ⟨u, rfl⟩ := one_of hl rfl
    have S' : SR Hs H0 H (some u :: vs) (some (.int i) :: ds) := S
    cases SR.isInt S'
    exact .inl ⟨i, rfl, k _ H S'.drop.int⟩
  · rename_i i
    cases e
    obtain ⟨u, rfl⟩ := one_of hl rfl
    have S' : SR Hs H0 H (some u :: vs) (some (.bl i) :: ds) := S
    cases SR.isBl S'
    exact .inr ⟨i, rfl, k _ H S'.drop.int⟩
  · cases e
def dEqS (neg : Bool) : D → D → Res D := fun x y => match x, y with
  | .int i, .int j => .ok (.bl (neg != decide (i = j)))
  | .str i, .str j => .ok (.bl (neg != decide (i = j)))
  | .bl i, .bl j => .ok (.bl (neg != decide (i = j)))
  | _, _ => .bad
theorem dEqS_noX (n : Bool) : ∀ x y, noX (dEqS n x y) = true := by intro x y; unfold dEqS; split <;> rfl
theorem fo_eqS : FOp X (compareOp .Eq) (dEqS false) := by
  refine ⟨OpR.pre op_eq ?_⟩
  rintro x y H Q ⟨Hs, H0, vs, ds, d1, d2, d, S, e, k⟩
  unfold dEqS at e
  split at e
  · rename_i i j
    cases e; cases SR.isInt S; cases SR.isInt S.drop
    refine ⟨rfl, ?_⟩
    have : decide (V.int i = V.int j) = (false != decide (i = j)) := by simp
    rw [this]; exact k _ H S.drop.drop.bl
  · rename_i i j
    cases e; cases SR.isStr S; cases SR.isStr S.drop
    refine ⟨rfl, ?_⟩
    have : decide (V.str i = V.str j) = (false != decide (i = j)) := by simp
    rw [this]; exact k _ H S.drop.drop.bl
  · rename_i i j
    cases e; cases SR.isBl S; cases SR.isBl S.drop
    refine ⟨rfl, ?_⟩
    have : decide (V.bl i = V.bl j) = (false != decide (i = j)) := by simp
    rw [this]; exact k _ H S.drop.drop.bl
  · cases e
theorem fo_neS : FOp X (compareOp .NotEq) (dEqS true) := by
  refine ⟨OpR.pre op_ne ?_⟩
  rintro x y H Q ⟨Hs, H0, vs, ds, d1, d2, d, S, e, k⟩
  unfold dEqS at e
  split at e
  · rename_i i j
    cases e; cases SR.isInt S; cases SR.isInt S.drop
    refine ⟨rfl, ?_⟩
    have : (!decide (V.int i = V.int j)) = (true != decide (i = j)) := by simp
    rw [this]; exact k _ H S.drop.drop.bl
  · rename_i i j
    cases e; cases SR.isStr S; cases SR.isStr S.drop
    refine ⟨rfl, ?_⟩
    have : (!decide (V.str i = V.str j)) = (true != decide (i = j)) := by simp
    rw [this]; exact k _ H S.drop.drop.bl
  · rename_i i j
    cases e; cases SR.isBl S; cases SR.isBl S.drop
    refine ⟨rfl, ?_⟩
    have : (!decide (V.bl i = V.bl j)) = (true != decide (i = j)) := by simp
    rw [this]; exact k _ H S.drop.drop.bl
  · cases e
theorem SR.recv {Hs H0 H : Hp} {σ : St} {ρ : FEnv} (S : SR Hs H0 H σ ρ) {i : Nat} {t : Tg} {xs : List D} (e : ρ[i]? = some (some (.lst t xs))) : ∃ p us, σ[i]? = some (some (.ref p)) ∧ H p = some (.lst us) ∧ us.length = xs.length := by
  obtain ⟨v, hv, S'⟩ := S.get e
  have h := S'.head
  cases t with
  | f => cases h with | lst q R => exact ⟨_, _, hv, q, R.length⟩
  | o => cases h with | lst q R => exact ⟨_, _, hv, q, R.length⟩
  | b => cases h with | lst q R => exact ⟨_, _, hv, q, R.length⟩
def gSetIx (i : Nat) (fk f : FEnv → Res D) : FEnv → FOut := fun ρ => match ρ[i]? with
  | some (some (.lst .o xs)) => aft (f ρ) fun d => aft (fk ρ) fun k => match k with
    | .int j => match ixN xs.length j with
      | some m => if d.tag = .b then .bad else .nx (ρ.set i (some (.lst .o (xs.set m d))))
      | none => .bad
    | _ => .bad
  | _ => .bad
theorem fs_setIx {i : Nat} {x : Str} {p1 : Pos} {k : Expr} {p2 : Pos} {fk : FEnv → Res D} (hv : PV X (.Name x p1) i) (he : FE X H0 Ex e f) (hk : FE X H0 Ex k fk)
    (ha : ∀ v, assign (.Subscript (.Name x p1) k p2) X.env v = (do
      let ov ← holding [v] (eval (.Name x p1) X.env)
      let iv ← holding [v, ov] (eval k X.env)
      standAt p2
      holding [v, ov, iv] (setItem ov iv v)
      release [v, ov, iv] []) := by intro _; rfl)
    (hs : swapsWithSole [.Subscript (.Name x p1) k p2] e pos.line X.env = pure false := by rfl) (hw : swappedStores [.Subscript (.Name x p1) k p2] e X.env = pure none := by rfl)
    (h1 : (assignEach [.Subscript (.Name x p1) k p2] X.env).map (·.2) = [assign (.Subscript (.Name x p1) k p2) X.env] := by rfl) :
    FS X H0 Ex (.Assign [.Subscript (.Name x p1) k p2] e pos) (gSetIx i fk f) := by
  refine ⟨PS.pre (ps_asg he.go (pg_sub hv.go hk.go set_list ha) hs hw h1) ?_⟩
  rintro En σ H ⟨Hs, ρ, ⟨S, n⟩, p⟩
  unfold gSetIx at p
  split at p
  · rename_i xs hx
    obtain ⟨q, us, hq, hH, hl⟩ := S.recv hx
    refine ⟨Hs, ρ, [], S, (PostS.aft p).imp fun d _ p1 v H1 S1 => ⟨.ref q, hq, Hs, ρ, [(v, d)], S1, (PostS.aft p1).imp fun kd _ p2 w H2 S2 => ?_⟩⟩
    have S2 : SR Hs H0 H2 (some w :: some v :: σ) (some kd :: some d :: ρ) := S2
    split at p2
    · rename_i j _ _
      split at p2
      · rename_i m hm
        split at p2
        · exact p2.elim
        · rename_i hc
          cases SR.isInt S2
          have hml : m < xs.length := (ixN_seq hm).2.1
          obtain ⟨q', us', hq', hH', hl', S3⟩ := S2.drop.setAt hc n hx hml
          rw [hq] at hq'
          cases hq'
          exact ⟨q, us', j, m, rfl, rfl, hH', by rw [hl']; exact hm, p2 σ _ ⟨S3, n.set fun d' z => by cases z; exact fun y => nomatch y⟩⟩
      · exact p2.elim
    · exact p2.elim
  · exact p.elim
end
end Mi
namespace Mi
open PySem PySem.Spec L2
open PyProof.Rows hiding St
def K2 (h h' : Heap) : Prop := ∀ b o vs, h.get? b = some o → o.data = .fields vs → ∃ o' vs', h'.get? b = some o' ∧ o'.data = .fields vs' ∧ vs'[2]? = vs[2]?
theorem K2.refl (h : Heap) : K2 h h := fun b o vs e d => ⟨o, vs, e, d, rfl⟩
theorem K2.trans {a b c : Heap} (x : K2 a b) (y : K2 b c) : K2 a c := fun q o vs e d => by
  obtain ⟨o1, v1, e1, d1, r1⟩ := x q o vs e d
  obtain ⟨o2, v2, e2, d2, r2⟩ := y q o1 v1 e1 d1
  exact ⟨o2, v2, e2, d2, r2.trans r1⟩
def C2 (f : Obj → Obj) : Prop := ∀ o vs, o.data = .fields vs → ∃ vs', (f o).data = .fields vs' ∧ vs'[2]? = vs[2]?
theorem K2.upd {h : Heap} {a : Addr} {f : Obj → Obj} (c : C2 f) : K2 h (h.update a f) := fun b o vs e d => by
  by_cases hb : b = a
  · subst hb
    obtain ⟨v, dv, r⟩ := c o vs d
    exact ⟨f o, v, Heap.get?_update_self f e (Obj.isFreed_of_fields dv), dv, r⟩
  · exact ⟨o, vs, (Heap.get?_update_other h f (Ne.symm hb)).trans e, d, rfl⟩
theorem K2.push {h : Heap} (o : Obj) : K2 h (h.push o) := fun b o' vs e d => ⟨o', vs, Heap.get?_push_of_some o e, d, rfl⟩
theorem c2_set {i : Nat} {v : Value} (hi : i ≠ 2) : C2 (Obj.mapFields (·.setIfInBounds i v)) := fun o vs d =>
  ⟨_, Obj.data_mapFields d _, Array.getElem?_setIfInBounds_ne hi⟩
theorem c2_slots (g : Obj → Array (Option Value)) : C2 (fun o => { o with slots := g o }) := fun o vs d => ⟨vs, d, rfl⟩
def Fl {α : Type} : Sem α → Prop
  | .pure _ | .raise _ | .unsupported _ | .finish _ => True
  | .rule _ k | .at _ k | .point _ k => Fl (k ())
  | .load _ _ k => ∀ o, Fl (k o)
  | .loadIfAlive _ k => ∀ o, Fl (k o)
  | .update _ _ f k => C2 f ∧ Fl (k ())
  | .alloc _ k => ∀ a, Fl (k a)
  | .fresh k => ∀ a, Fl (k a)
  | .ask k => ∀ a, Fl (k a)
  | .handled _ k => ∀ a, Fl (k a)
  | .stack k => ∀ a, Fl (k a)
  | .thread k => ∀ a, Fl (k a)
  | _ => False
theorem Fl.bind {α β : Type} {f : α → Sem β} (hf : ∀ a, Fl (f a)) : ∀ {m : Sem α}, Fl m → Fl (m.bind f) := by
  intro m
  induction m with
  | pure a => intro _; exact hf a
  | raise e => intro _; exact trivial
  | unsupported w => intro _; exact trivial
  | finish e => intro _; exact trivial
  | rule t k ih => intro h; exact ih () h
  | «at» p k ih => intro h; exact ih () h
  | point l k ih => intro h; exact ih () h
  | load a p k ih => intro h; exact fun o => ih o (h o)
  | loadIfAlive a k ih => intro h; exact fun o => ih o (h o)
  | update a p g k ih => intro h; exact ⟨h.1, ih () h.2⟩
  | alloc o k ih => intro h; exact fun a => ih a (h a)
  | fresh k ih => intro h; exact fun a => ih a (h a)
  | ask k ih => intro h; exact fun a => ih a (h a)
  | handled o k ih => intro h; exact fun a => ih a (h a)
  | stack k ih => intro h; exact fun a => ih a (h a)
  | thread k ih => intro h; exact fun a => ih a (h a)
  | _ => intro h; exact h.elim
theorem wp_K2 {α : Type} {M : Model} {Γ : PySem.Ctx} {Q : α → Pos → Shared → Prop} {E : Value → Pos → Shared → Prop} {h0 : Heap} : ∀ {t : Sem α} {p : Pos} {s : Shared}, Fl t → K2 h0 s.heap → Sem.wp M Γ t Q E p s →
    Sem.wp M Γ t (fun a p s' => Q a p s' ∧ K2 h0 s'.heap) (fun e p s' => E e p s' ∧ K2 h0 s'.heap) p s := by
  intro t
  induction t with
  | pure a => intro p s _ k w; exact ⟨w, k⟩
  | raise e => intro p s _ k w; exact ⟨w, k⟩
  | unsupported w => intro p s _ _ w; exact w
  | finish e => intro p s _ _ w; exact w
  | rule t k ih => intro p s f kk w; exact ih () f kk w
  | «at» p k ih => intro p s f kk w; exact ih () f kk w
  | point l k ih => intro p s f kk w; exact ih () f kk w
  | load a p k ih => intro p s f kk w; obtain ⟨o, e, w⟩ := w; exact ⟨o, e, ih o (f o) kk w⟩
  | loadIfAlive a k ih => intro p s f kk w; exact ih _ (f _) kk w
  | update a p g k ih => intro p s f kk w; exact ⟨w.1, ih () f.2 (kk.trans (K2.upd f.1)) w.2⟩
  | alloc o k ih => intro p s f kk w; exact ih _ (f _) (kk.trans (K2.push o)) w
  | fresh k ih => intro p s f kk w; exact ih _ (f _) kk w
  | ask k ih => intro p s f kk w; exact ih _ (f _) kk w
  | handled o k ih => intro p s f kk w; exact ih _ (f _) kk w
  | stack k ih => intro p s f kk w; exact ih _ (f _) kk w
  | thread k ih => intro p s f kk w; exact ih _ (f _) kk w
  | _ => intro p s f; exact f.elim
theorem any_K2 {α : Type} {M : Model} {A : Around} {Q : α → Shared → Prop} {E : Value → Shared → Prop} {t : Sem α} {s : Shared} (f : Fl t) (h : wpAny M A t Q E s) :
    wpAny M A t (fun a s' => Q a s' ∧ K2 s.heap s'.heap) (fun e s' => E e s' ∧ K2 s.heap s'.heap) s := fun Γ p hA => wp_K2 f (K2.refl _) (h Γ p hA)
theorem fl_fieldsOf (v : Value) : Fl (fieldsOf v) := by
  unfold fieldsOf
  cases v <;> first | exact trivial | (intro o; dsimp only [Sem.bind]; split <;> exact trivial)
theorem fl_field (v : Value) (i : Nat) : Fl (field v i) := by
  unfold field
  refine Fl.bind (fun vs => ?_) (fl_fieldsOf v)
  split <;> exact trivial
theorem fl_setField (v : Value) (i : Nat) (u : Value) (hi : i ≠ 2) : Fl (setField v i u) := by
  unfold setField
  cases v <;> first | exact trivial | skip
  rename_i a
  show Fl (updateField a i u)
  unfold updateField
  intro o
  dsimp only [Sem.bind]
  split
  · split
    · exact ⟨c2_set hi, trivial⟩
    · exact trivial
  · exact trivial
theorem fl_setFlight (e : Value) (f : Option Addr) : Fl (setFlight e f) := by
  unfold setFlight
  refine Fl.bind (fun tb => ?_) (fl_field e 1)
  split
  · exact fl_setField _ 3 _ (by decide)
  · exact trivial
theorem fl_behind (env : Env) (outer : List Env) : Fl (behindIsImport env outer) := by
  unfold behindIsImport
  split
  · exact trivial
  · split
    · exact trivial
    · refine Fl.bind (fun x => ?_) (fl_field _ 12)
      exact trivial
theorem fl_kept (env : Env) (b : Bool) (outer : List Env) : Fl (keptBack env b outer) := by
  unfold keptBack
  split
  · split
    · exact trivial
    · intro st; exact trivial
  · exact trivial
theorem fl_ready (l : List Env) : Fl (readyFrames l) := by
  induction l with
  | nil => unfold readyFrames; exact trivial
  | cons env outer ih =>
    unfold readyFrames
    split
    · rename_i f _
      intro o
      dsimp only [Sem.bind]
      split
      · exact trivial
      · refine Fl.bind (fun b => Fl.bind (fun v => Fl.bind (fun _ => ih) ?_) (fl_kept env b outer)) (fl_behind env outer)
        exact ⟨c2_slots _, trivial⟩
    · exact trivial
theorem fl_frameOf (env : Env) : Fl (PySem.frameOf env) := by
  unfold PySem.frameOf
  refine Fl.bind (fun l => Fl.bind (fun r => ?_) ?_) (m := frameEnvs) ?_
  · split <;> exact trivial
  · unfold frameObject
    split
    · exact trivial
    · refine Fl.bind (fun x => ?_) (fl_ready _)
      exact trivial
  · intro st; exact trivial
theorem fl_place (f : Addr) (b : Bool) : Fl (entryPlaceOf f b) := by
  unfold entryPlaceOf
  intro st
  dsimp only [Sem.bind]
  split <;> exact trivial
theorem fl_entry (a b c d e : Value) (p : List Value) : Fl (EntryCells.newEntry a b c d e p) := by
  unfold EntryCells.newEntry newFields newObj
  dsimp only
  unfold newObjAsIs
  split <;> split <;> first | exact trivial | (intro o; exact trivial)
theorem fl_note (e : Value) (env : Env) : Fl (noteFrame e env) := by
  unfold noteFrame
  split
  · rename_i f _
    refine Fl.bind (fun hd => ?_) (fl_field e 1)
    have tail : Fl (do let fr ← PySem.frameOf env; let pl ← entryPlaceOf f (hd != .none); let b ← EntryCells.newEntry hd fr .none (rawInt f) .none pl; setField e 1 b) :=
      Fl.bind (fun fr => Fl.bind (fun pl => Fl.bind (fun b => fl_setField e 1 b (by decide)) (fl_entry _ _ _ _ _ _)) (fl_place _ _)) (fl_frameOf env)
    dsimp only
    split
    · refine Fl.bind (fun z => ?_) (fl_field hd 3)
      split
      · exact trivial
      · exact Fl.bind (fun _ => tail) (fl_setField hd 3 _ (by decide))
    · exact tail
  · exact trivial
theorem fl_leaving (e : Value) (env : Env) : Fl (leaving env e) := by
  unfold leaving
  exact Fl.bind (fun _ => fl_setFlight e none) (fl_note e env)
end Mi
namespace Mi
open PySem PySem.Spec L2
open PyProof.Rows hiding St
def isort (ns : List Int) : List Int := ns.mergeSort fun a b => decide (a ≤ b)
theorem isort_perm (ns : List Int) : (isort ns).Perm ns := List.mergeSort_perm ns _
theorem isort_sorted (ns : List Int) : (isort ns).Pairwise (· ≤ ·) := by
  have := List.pairwise_mergeSort (le := fun a b : Int => decide (a ≤ b)) (fun a b c h1 h2 => by simp at *; omega) (fun a b => by simp; omega) ns
  exact this.imp fun h => by simpa using h
def intsOf : List D → Option (List Int)
  | [] => some []
  | .int i :: r => (intsOf r).map (i :: ·)
  | _ => none
theorem intsOf_some : ∀ {ds : List D} {ns : List Int}, intsOf ds = some ns → ds = ns.map D.int
  | [], _, h => by simp [intsOf] at h; subst h; rfl
  | .int i :: r, ns, h => by
    simp only [intsOf, Option.map_eq_some_iff] at h
    obtain ⟨m, hm, rfl⟩ := h
    rw [intsOf_some hm]; rfl
  | .non :: _, _, h | .bl _ :: _, _, h | .str _ :: _, _, h | .lst _ _ :: _, _, h | .tup _ :: _, _, h | .dic _ _ :: _, _, h | .ins _ _ _ :: _, _, h | .exc _ :: _, _, h | .scr _ :: _, _, h | .slf _ _ _ :: _, _, h => by cases h
theorem intsOf_map (ns : List Int) : intsOf (ns.map D.int) = some ns := by
  induction ns with
  | nil => rfl
  | cons n ns ih => simp [intsOf, ih]
theorem reps_ints {H : Hp} : ∀ {us : List V} {ns : List Int}, Reps H us (ns.map D.int) → us = ns.map V.int
  | _, [], .nil => rfl
  | _, n :: ns, .cons h r => by cases h; rw [reps_ints r]; rfl
theorem reps_of_ints {H : Hp} (ns : List Int) : Reps H (ns.map V.int) (ns.map D.int) := by
  induction ns with
  | nil => exact .nil
  | cons n ns ih => exact .cons .int ih
section
variable {X : Cx} {Ex : Value → Prop} {H0 : Hp} {e : Expr} {pos : Pos}
theorem call_sorted_ints : CallR X (.builtin "sorted") (fun xs H Q => ∃ p ns, xs = [.ref p] ∧ SqL X.K H p (ns.map V.int) ∧ ns.length < 64 ∧ ∀ l, H l = none → Q (.ref l) (upd H l (.lst ((isort ns).map V.int)))) := by
  intro pins s σ H xs us Q I r h
  obtain ⟨p, ns, rfl, hq, h64, q⟩ := h
  obtain ⟨u, rfl, rx⟩ := vals1 r
  cases rx
  obtain ⟨its, rv, pl, hz⟩ := I.list hq
  have hI : IntsAre its ns := intsAre_of rv
  have hl := rv.length
  rw [List.length_map] at hl hz
  refine sorted_ints pl.isList hI (by omega) fun out ns' a1 a2 a3 => ?_
  have en : ns' = isort ns := PySem.W.ksm_same (a2.trans (isort_perm ns).symm) a3 (isort_sorted ns)
  subst en
  obtain ⟨e, he⟩ := sortedAll_at s.heap its out
  have hfresh : H (s.heap.objs.size + 1) = none := I.hok.fresh (Nat.le_succ _)
  refine ⟨.ref (s.heap.objs.size + 1), _, I.laid (t' := s.toks) (fun b o h => sortedAll_old h) (Nat.le_succ _) (?_ : ObjOk X.prog X.w _ _ _ (.lst ((isort ns).map V.int))), rfl, q _ hfresh⟩
  refine ⟨?_, out.toList, e, vals_ints a1, he⟩
  rw [List.length_map, (isort_perm ns).length_eq]
  exact hz
def cSortedI : List D → Res D
  | [d] => match d.its with
    | some ys => match intsOf ys with
      | some ns => if d.isL = true ∧ ns.length < 64 then .ok (.lst .o ((isort ns).map D.int)) else .bad
      | none => .bad
    | none => .bad
  | _ => .bad
theorem cSortedI_noX : ∀ es, noX (cSortedI es) = true := by
  intro es
  unfold cSortedI
  split
  · split
    · split
      · split <;> rfl
      · rfl
    · rfl
  · rfl
theorem fc_sortedI : FCall X (.builtin "sorted") cSortedI := by
  refine ⟨CallR.pre call_sorted_ints ?_⟩
  rintro us H Q ⟨Hs, H0, vs, ds, es, d, hl, S, e, k⟩
  unfold cSortedI at e
  split at e
  · rename_i d1
    split at e
    · rename_i ys hy
      split at e
      · rename_i ns hn
        split at e
        · rename_i hc
          cases e
          obtain ⟨u, rfl⟩ := one_of hl rfl
          have S' : SR Hs H0 H (some u :: vs) (some d1 :: ds) := S
          obtain ⟨a, us, rfl, ha, Hf, fp, O, F, R⟩ := S'.items hy
          rw [hc.1] at ha
          have hys := intsOf_some hn
          subst hys
          have hus := reps_ints R
          subst hus
          exact ⟨a, ns, rfl, SqL.of ha, hc.2, fun l hl => k _ _ (SR.laidL O F (reps_of_ints _) (fun e m => by obtain ⟨i, _, rfl⟩ := List.mem_map.mp m; rfl) hl)⟩
        · cases e
      · cases e
    · cases e
  · cases e
def tRng1 (ta : TA) : TE := fun σ H Q => ta σ H fun vs H1 => ∃ j : Int, vs = [.int j] ∧ ∀ p, H1 p = none → Q (.ref p) (upd H1 p (.rng 0 j))
theorem pe_rng1 {a : Expr} {ta : TA} {p : Pos} (hg : Gl X "range") (hm : X.mg "range" = none) (ha : PA X [a] ta) (hs : starEach [a] X.env = [(false, eval a X.env)] := by rfl) : PE X (.Call (.Name "range" p) [a] [] pos) (tRng1 ta) := by
  intro pins s σ H Q I h
  refine Call_ (ld_blt I hg hm boot_range (PyProof.Rows.callWith_type1 (thn (ha pos pins s σ H _ I h) fun us s1 ⟨vs, H1, I1, r1, q1⟩ => ?_) hs rfl))
  obtain ⟨j, e, q⟩ := q1
  subst e
  cases r1 with
  | cons r rr =>
    cases rr
    obtain ⟨t, rfl⟩ := r
    refine call_range_1 ⟨.ref s1.heap.objs.size, _, I1.laid (fun b o e => Heap.get?_push_of_some _ e) (Nat.le_refl _) (?_ : ObjOk X.prog X.w _ _ _ (.rng 0 j)), rfl, q _ (I1.hok.fresh (Nat.le_refl _))⟩
    exact ⟨_, _, _, Heap.get?_push_size _ rfl⟩
theorem call_list_rng (hc : X.calm = true) : CallR X (.type "list") (fun xs H Q => ∃ p lo hi, xs = [.ref p] ∧ H p = some (.rng lo hi) ∧ -(2 ^ 62) ≤ lo ∧ lo < 2 ^ 62 ∧ -(2 ^ 62) ≤ hi ∧ hi < 2 ^ 62 ∧ (hi - lo).toNat ≤ 1000000 ∧ ∀ l, H l = none → Q (.ref l) (upd H l (.lst ((List.range (hi - lo).toNat).map fun (i : Nat) => V.int (lo + (i : Int)))))) := by
  intro pins s σ H xs us Q I r h
  obtain ⟨p, lo, hi, rfl, hp, h1, h2, h3, h4, h5, q⟩ := h
  obtain ⟨u, rfl, rx⟩ := vals1 r
  cases rx
  obtain ⟨t, u, v, hr⟩ := I.hok p _ hp
  have hn : Builtin.Range.rangeSize lo hi 1 = ((hi - lo).toNat : Nat) := by rw [rangeSize_one]; split <;> omega
  refine call_list_range (n := (hi - lo).toNat) (I.ok.hd hc) (show IsRange s.heap p lo hi 1 t u v from hr) (small_one h1 h2 h3 h4) hn (by omega) fun h' tk acc c' kp e hS => ?_
  refine ⟨.ref s.heap.objs.size, _, I.laid kp (Nat.le_refl _) (?_ : ObjOk X.prog X.w _ _ _ (.lst _)), rfl, q _ (I.hok.fresh (Nat.le_refl _))⟩
  refine ⟨?_, acc.toList, c', ?_, by simpa using e⟩
  · rw [List.length_map, List.length_range, sizeLine_eq]; omega
  · obtain ⟨z1, z2⟩ := hS
    have go : ∀ (n k : Nat) (l : List Value), l.length = n → (∀ j v, l[j]? = some v → ∃ t, v = Value.int (lo + ((k + j : Nat) : Int) * 1) t) → Vals ((List.range' k n).map fun (i : Nat) => V.int (lo + (i : Int))) l := by
      intro n
      induction n with
      | zero => intro k l hl _; cases l with | nil => exact .nil | cons a b => simp at hl
      | succ n ih =>
        intro k l hl hv
        cases l with
        | nil => simp at hl
        | cons a b =>
          rw [List.range'_succ, List.map_cons]
          obtain ⟨t, ha⟩ := hv 0 a rfl
          refine .cons ⟨t, by rw [ha]; congr 1; simp⟩ (ih (k + 1) b (by simpa using hl) fun j v hj => ?_)
          obtain ⟨t', hb⟩ := hv (j + 1) v (by simpa using hj)
          exact ⟨t', by rw [hb, show k + (j + 1) = k + 1 + j by omega]⟩
    have := go (hi - lo).toNat 0 acc.toList (by simpa using z1) fun j v hj => by
      obtain ⟨t, e⟩ := z2 j v (by simpa using hj)
      exact ⟨t, by rw [e, Nat.zero_add]⟩
    rw [List.range_eq_range']
    exact this
def fListR1 (fa : FEnv → Res (List D)) : FEnv → Res D := fun ρ => fiR1 fa ρ >>= fun items => if items.length ≤ 1000000 then .ok (.lst .o items) else .bad
theorem reps_rints {H : Hp} (lo : Int) (n : Nat) : Reps H ((List.range n).map fun (i : Nat) => V.int (lo + (i : Int))) (rints lo n) := by
  unfold rints
  induction List.range n with
  | nil => exact .nil
  | cons a b ih => exact .cons .int ih
theorem fe_listR1 {a : Expr} {p p' q q' : Pos} {fa : FEnv → Res (List D)} (hc : X.calm = true) (hg : Gl X "range") (hm : X.mg "range" = none) (hgl : Gl X "list") (hml : X.mg "list" = none) (ha : FA X H0 Ex [a] fa) (hs : starEach [a] X.env = [(false, eval a X.env)] := by rfl)
    (h1 : starEach [.Call (.Name "range" p) [a] [] q] X.env = (false, eval (.Call (.Name "range" p) [a] [] q) X.env) :: starEach [] X.env := by rfl) (h2 : (backTo q' (starEach [] X.env)).any (·.1) = false := by rfl) :
    FE X H0 Ex (.Call (.Name "list" p') [.Call (.Name "range" p) [a] [] q] [] q') (fListR1 fa) := by
  refine ⟨PE.pre (pe_callTy (call_list_rng hc) hgl hml (by decide +kernel) (pa_cons (pe_rng1 hg hm ha.go hs) pa_nil h1) (by decide) (by decide) h1 h2) ?_⟩
  rintro σ H Q ⟨Hs, ρ, ts, S, pp⟩
  unfold fListR1 fiR1 at pp
  refine ⟨Hs, ρ, ts, S, (Post.bind (Post.bind pp)).imp fun es _ p1 us H1 hl S1 => ?_⟩
  split at p1
  · rename_i j _
    split at p1
    · rename_i hcc
      simp at hcc
      have p1 : Post Ex (if (rints 0 j.toNat).length ≤ 1000000 then Res.ok (D.lst .o (rints 0 j.toNat)) else .bad) fun d => ∀ v H', SX Hs H0 H' ((v, d) :: ts) σ ρ → Q v H' := p1
      split at p1
      · rename_i hlen
        obtain ⟨u, rfl⟩ := one_of hl rfl
        have S2 : SR Hs H0 H1 (some u :: (tvs ts ++ σ)) (some (.int j) :: (tds ts ++ ρ)) := SX.held hl S1
        cases SR.isInt S2
        refine ⟨j, rfl, fun r hr => ?_⟩
        have sm : Same H1 (upd H1 r (.rng 0 j)) := fun b o e => by rw [upd_ne (ne_of_none e hr)]; exact e
        obtain ⟨Hf, fp, O, F⟩ := S2.drop.grow sm
        have hlen : j.toNat ≤ 1000000 := by simpa [rints] using hlen
        refine ⟨r, 0, j, rfl, upd_same, by omega, by omega, by omega, by omega, by simpa using hlen, fun l hl => p1 _ _ ?_⟩
        have := SR.laidL O F (reps_rints 0 (j - 0).toNat) (fun e m => by obtain ⟨i, _, rfl⟩ := List.mem_map.mp m; rfl) hl
        rw [show j - 0 = j by omega] at this ⊢
        exact this
      · exact p1.elim
    · exact p1.elim
  · exact p1.elim
def XC (C cls : Value) (vs : Array Value) : Prop := ∃ c : Nat, cls = .ref c ∧ ((C = .ref c ∧ vs[2]? = some .none) ∨ C = .int (c : Int) 0)
theorem XC.cls {C' cls : Value} {vs : Array Value} {C : Addr} (x : XC C' cls vs) (h : C' = .ref C ∨ C' = .int (C : Int) 0) : cls = .ref C := by
  obtain ⟨c, a, b⟩ := x
  rw [a]
  rcases h with rfl | rfl
  · rcases b with ⟨b, _⟩ | b
    · rw [b]
    · cases b
  · rcases b with ⟨b, _⟩ | b
    · cases b
    · have b1 := (Value.int.inj b).1
      have : C = c := Int.ofNat.inj b1
      rw [this]
def ExcIn (h0 h : Heap) (H : Hp) (a : Addr) (C : Value) : Prop := ∃ oe vs T oT ts, h.get? a = some oe ∧ XC C oe.cls vs ∧ oe.data = .fields vs ∧ vs[1]? = some (.ref T) ∧ T ≠ a ∧ h.get? T = some oT ∧ oT.data = .fields ts ∧ ts[3]? = some .none ∧ H a = none ∧ H T = none ∧ h0.get? a = none ∧ h0.get? T = none
def CXm (P : Program) (w : World) : CXT := fun outer H s E e s' => ∃ a C H', e = .ref a ∧ s'.os = s.os ∧ AllBare s'.gens ∧ Un (frs outer) [] H H' s.heap s'.heap ∧ HOk P w H' s'.heap ∧ ExcIn s.heap s'.heap H' a C ∧ E C none H'
theorem po_cx {CX : CXT} {P : Program} {w : World} {K : PySem.W.Frag} {mg : Str → Option Value} {base : Heap} {N : List Str} {qual : Str} {scope : Scope} {f : Addr} {cd : Value} {A : Around} {outer : List Env} {s : Shared} {H : Hp} {E : XK} : Po (cxOf CX P w K mg base N qual scope f cd A outer s H E) := ⟨PassesOwn.leaving⟩
theorem pass_no {X : Cx} {P : Program} {w : World} : Passes (CXm P w) X (fun _ _ _ => False) := fun _ _ _ _ _ _ _ h => by
  obtain ⟨_, _, _, _, _, _, _, _, _, z⟩ := h
  exact z.elim
structure Cal (P : Program) (w : World) (K : PySem.W.Frag) (mg : Str → Option Value) (base : Heap) (x : Str) (n : Nat) (F : List D → Res D) (k : Nat) : Prop where
  ex : ∃ f fd ps, FnOk P w K mg base (CXm P w) k f fd ps (spF n F) ∧ mg x = some (.ref f) ∧ PySem.W.keepIn K (.ref f) = true ∧ Binds K fd ps []
structure Df (K : PySem.W.Frag) (mg : Str → Option Value) (x : Str) (st : Stmt) (ps : List Str) : Prop where
  ex : ∃ f fd, Fun K x x st f fd ∧ mg x = some (.ref f) ∧ Binds K fd ps []
def fCallN (n : Nat) (F : List D → Res D) (fa : FEnv → Res (List D)) : FEnv → Res D := fun ρ => fa ρ >>= fun ds => if ds.length = n then callF F ds else .bad
theorem CompScope.of {X : Cx} {scope : Scope} {own : List Str} {cap : List (Str × Nat)} (h1 : scope.kind = .function) (h2 : (scope.names.map (·.1)).Nodup) (h3 : (scope.names.all fun x => !(x.2 == .free) || X.env.kindOf x.1 == some .cell || X.env.kindOf x.1 == some .free) = true)
    (h4 : (cap.all fun p => X.N[p.2]? == some p.1 && scope.names.lookup p.1 == some .free) = true) (h5 : (own ++ cap.map (·.1)).Nodup) : CompScope X scope own cap where
  kind := h1
  nd := h2
  free := fun x hx hk => by
    have := List.all_eq_true.mp h3 x hx
    rw [hk] at this
    simp at this
    exact this
  capN := fun p hp => by
    have := List.all_eq_true.mp h4 p hp
    simp at this
    exact this
  ndN := h5
end
end Mi
namespace Mi
open PySem PySem.Spec L2
open PyProof.Rows hiding St
theorem obj_ex {P : Program} {w : World} {H : Hp} {h : Heap} {a : Addr} {o : HO} (x : ObjOk P w H h a o) : ∃ u, h.get? a = some u := by
  cases o with
  | lst xs => obtain ⟨_, _, _, _, e⟩ := x; exact ⟨_, e⟩
  | tup xs => obtain ⟨_, _, _, o, e, _⟩ := x; exact ⟨_, e⟩
  | dK kvs => obtain ⟨_, _, _, _, o, _, _, e, _⟩ := x; exact ⟨_, e⟩
  | dT kvs => obtain ⟨_, _, _, _, o, _, _, e, _⟩ := x; exact ⟨_, e⟩
  | set S n => obtain ⟨o, _, _, _, e, _⟩ := x; exact ⟨_, e⟩
  | ins C dx fs => obtain ⟨_, _, _, e, _⟩ := x; exact ⟨_, e⟩
  | own y => obtain ⟨_, e⟩ := x; exact ⟨_, e⟩
  | xd fs => obtain ⟨_, ⟨_, _, _, e, _⟩, _⟩ := x; exact ⟨_, e⟩
  | rng lo hi => obtain ⟨_, _, _, e⟩ := x; exact ⟨_, e⟩
  | frz ob u => obtain ⟨e, _⟩ := x; exact ⟨_, e⟩
  | tbl ps => exact ⟨_, (show h.get? a = some _ from x)⟩
  | met f y => exact ⟨_, (show h.get? a = some _ from x)⟩
  | ext φ => obtain ⟨_, ⟨_, e⟩, _⟩ := x; exact ⟨_, e⟩
theorem frames_un {base h h' : Heap} {fs : List Addr} {H1 H' : Hp} (u : Un fs [] H1 H' h h') : ∀ {l : List Env}, (∀ b ∈ frs l, b ∈ fs) → (∀ b ∈ frs l, H1 b = none) → h.FunFrames base l → h'.FunFrames base l
  | [], _, _, _ => trivial
  | env :: r, hs, hn, ⟨hk, ⟨L, o, hf, hb, ho, hd⟩, hr⟩ => by
    have mem : frs (env :: r) = L :: frs r := by unfold frs; rw [List.filterMap_cons, hf]
    have hL : L ∈ frs (env :: r) := by rw [mem]; exact List.mem_cons_self
    obtain ⟨sl, e⟩ := u.slot L o ho (hn L hL) (hs L hL) (by simp)
    exact ⟨hk, ⟨L, _, hf, hb, e, hd⟩, frames_un u (fun b m => hs b (by rw [mem]; exact List.mem_cons_of_mem _ m)) (fun b m => hn b (by rw [mem]; exact List.mem_cons_of_mem _ m)) hr⟩
section
variable {P : Program} {w : World} {K : PySem.W.Frag} {mg : Str → Option Value} {base : Heap} {N : List Str} {qual : Str} {scope : Scope} {f : Addr} {cd : Value} {A : Around} {outer : List Env} {s : Shared} {H : Hp} {E : XK}
abbrev cxm (P : Program) (w : World) (K : PySem.W.Frag) (mg : Str → Option Value) (base : Heap) (N : List Str) (qual : Str) (scope : Scope) (f : Addr) (cd : Value) (A : Around) (outer : List Env) (s : Shared) (H : Hp) (E : XK) : Cx := cxOf (CXm P w) P w K mg base N qual scope f cd A outer s H E
theorem left_cx {pins : List (Addr × Obj)} {σ : St} {H1 H' : Hp} {s1 s' : Shared} {a : Addr} {C cls : Value} {Ts : List Addr} {h'' : Heap} {oe0 : Obj} {vs0 : Array Value} (k2 : K2 s'.heap h'') (e0 : s'.heap.get? a = some oe0) (d0 : oe0.data = .fields vs0) (xc : XC C cls vs0) (I : Inv (cxm P w K mg base N qual scope f cd A outer s H E) pins σ H1 s1)
    (u : Un (frs (cxm P w K mg base N qual scope f cd A outer s H E).stack) [] H1 H' s1.heap s'.heap) (hos : s'.os = s1.os) (bare : AllBare s'.gens) (hok : HOk P w H' s'.heap) (ha : H' a = none) (hna : s1.heap.get? a = none) (hT : ∀ T ∈ Ts, H' T = none ∧ s1.heap.get? T = none)
    (FF : s'.heap.FunFrames base (cxm P w K mg base N qual scope f cd A outer s H E).stack)
    (L : Heap.Left (PySem.W.hideAll s'.heap (a :: (Ts ++ frs (cxm P w K mg base N qual scope f cd A outer s H E).stack))) (cxm P w K mg base N qual scope f cd A outer s H E).stack a cls s'.heap h'') (hE : E C none H') : CXm P w outer H s E (.ref a) { s' with heap := h'' } := by
  obtain ⟨st, ff, tr, sl⟩ := L
  have ib : Un (frs outer) [] H H1 s.heap s1.heap := I.base
  have kB : ∀ b o, s'.heap.get? b = some o → b ≠ a → b ∉ Ts → b ∉ frs (cxm P w K mg base N qual scope f cd A outer s H E).stack → h''.get? b = some o := fun b o e h1 h2 h3 => st b o (PySem.W.hideAll_get _ e fun m => by
    rcases List.mem_cons.mp m with z | m
    · exact h1 z
    · exact (List.mem_append.mp m).elim h2 h3)
  have frN : ∀ b ∈ frs (cxm P w K mg base N qual scope f cd A outer s H E).stack, H' b = none := fun b m => by
    obtain ⟨_, o, ho, _⟩ := I.stack.mem m
    exact u.free b o ho (I.stkFree b m) (by simp)
  have eSt : frs (cxm P w K mg base N qual scope f cd A outer s H E).stack = s.heap.objs.size :: frs outer := rfl
  have ne1 : ∀ b o, s.heap.get? b = some o → b ≠ a ∧ b ∉ Ts := fun b o e => by
    obtain ⟨o1, e1⟩ := ib.there b o e (by simp)
    refine ⟨fun z => ?_, fun m => ?_⟩
    · rw [z, hna] at e1; cases e1
    · rw [(hT b m).2] at e1; cases e1
  have neL : ∀ b o, s.heap.get? b = some o → b ≠ s.heap.objs.size := fun b o e => Nat.ne_of_lt (Heap.lt_size e)
  refine ⟨a, C, H', rfl, hos.trans I.os, bare, ⟨fun b o e n hb _ => ?_, fun b o e n hb _ => ?_, fun b o e n _ => ?_, fun b o e _ => ?_, fun b xs e => u.tups b xs (ib.tups b xs e), fun b o xs e => u.frzs b o xs (ib.frzs b o xs e), fun b ps e => ?_⟩, fun b ob e => ?_, ?_, hE⟩
  · have nst : b ∉ frs (cxm P w K mg base N qual scope f cd A outer s H E).stack := by
      rw [eSt]; intro m; rcases List.mem_cons.mp m with z | m
      · exact neL b o e z
      · exact hb m
    exact kB b o (u.keep b o (ib.keep b o e n hb (by simp)) (ib.free b o e n (by simp)) nst (by simp)) (ne1 b o e).1 (ne1 b o e).2 nst
  · have hst : b ∈ frs (cxm P w K mg base N qual scope f cd A outer s H E).stack := by rw [eSt]; exact List.mem_cons_of_mem _ hb
    obtain ⟨sl1, e1⟩ := ib.slot b o e n hb (by simp)
    obtain ⟨sl2, e2⟩ := u.slot b _ e1 (ib.free b o e n (by simp)) hst (by simp)
    obtain ⟨_, o', ho', hd⟩ := FF.mem hst
    rw [e2] at ho'
    cases ho'
    obtain ⟨sl3, e3⟩ := sl b _ e2 hd
    exact ⟨sl3, e3⟩
  · obtain ⟨o1, e1⟩ := ib.there b o e (by simp)
    exact u.free b o1 e1 (ib.free b o e n (by simp)) (by simp)
  · obtain ⟨o1, e1⟩ := ib.there b o e (by simp)
    obtain ⟨o2, e2⟩ := u.there b o1 e1 (by simp)
    by_cases hst : b ∈ frs (cxm P w K mg base N qual scope f cd A outer s H E).stack
    · obtain ⟨_, o', ho', hd⟩ := FF.mem hst
      rw [e2] at ho'
      cases ho'
      obtain ⟨sl3, e3⟩ := sl b _ e2 hd
      exact ⟨_, e3⟩
    · exact ⟨o2, kB b o2 e2 (ne1 b o e).1 (ne1 b o e).2 hst⟩
  · obtain ⟨m1, e1⟩ := ib.tbls b ps e
    obtain ⟨m2, e2⟩ := u.tbls b _ e1
    exact ⟨m1 ++ m2, by rw [e2, Array.append_assoc]⟩
  · refine (hok b ob e).stay (fun c v hc q => kB c v q ?_ ?_ ?_) (fun _ q => q) fun _ _ q => q
    · rintro rfl
      rcases hc with rfl | hc
      · rw [ha] at e; cases e
      · rw [ha] at hc; cases hc
    · intro m
      rcases hc with rfl | hc
      · rw [(hT c m).1] at e; cases e
      · rw [(hT c m).1] at hc; cases hc
    · intro m
      have := frN c m
      rcases hc with rfl | hc
      · rw [this] at e; cases e
      · rw [this] at hc; cases hc
  · obtain ⟨oe, vs, T, oT, ts, x1, x2, x3, x4, x5, x6, x7, x8, x9⟩ := tr
    have back : ∀ b, s1.heap.get? b = none → s.heap.get? b = none := fun b hb => by
      cases q : s.heap.get? b with
      | none => rfl
      | some o => obtain ⟨o1, e1⟩ := ib.there b o q (by simp); rw [hb] at e1; cases e1
    have xc' : XC C oe.cls vs := by
      obtain ⟨o', v', e', d', r'⟩ := k2 a oe0 vs0 e0 d0
      rw [x1] at e'
      cases e'
      rw [x3] at d'
      cases d'
      rw [x2]
      obtain ⟨c, c0, c1⟩ := xc
      refine ⟨c, c0, ?_⟩
      rcases c1 with ⟨c1, c2⟩ | c1
      · exact .inl ⟨c1, by rw [r']; exact c2⟩
      · exact .inr c1
    refine ⟨oe, vs, T, oT, ts, x1, xc', x3, x4, x6, x7, x8, x9, ha, ?_, back a hna, ?_⟩
    all_goals
      by_cases hm : T ∈ Ts
      · first
          | exact (hT T hm).1
          | exact back T (hT T hm).2
      · have hst : T ∉ frs (cxm P w K mg base N qual scope f cd A outer s H E).stack := fun m => by
          obtain ⟨_, o', ho', hd⟩ := ff.mem m
          rw [x7] at ho'
          cases ho'
          exact hd _ x8
        have hn : s'.heap.get? T = none := by
          cases q : s'.heap.get? T with
          | none => rfl
          | some o =>
            have := PySem.W.hideAll_get (a :: (Ts ++ frs (cxm P w K mg base N qual scope f cd A outer s H E).stack)) q fun m => by
              rcases List.mem_cons.mp m with z | m
              · exact x6 z
              · exact (List.mem_append.mp m).elim hm hst
            rw [this] at x5
            cases x5
        first
          | (cases q : H' T with
             | none => rfl
             | some o => obtain ⟨v, e⟩ := obj_ex (hok T o q); rw [hn] at e; cases e)
          | (cases q : s.heap.get? T with
             | none => rfl
             | some o =>
               obtain ⟨o1, e1⟩ := ib.there T o q (by simp)
               obtain ⟨o2, e2⟩ := u.there T o1 e1 (by simp)
               rw [hn] at e2; cases e2)
theorem pass_cx {Ex : Value → Prop} {H0 : Hp} (hE : ∀ C H', Ex C → Same H0 H' → E C none H') : Passes (CXm P w) (cxm P w K mg base N qual scope f cd A outer s H E) (Exk H0 Ex) := by
  intro pins σ H1 s1 e s' I h
  obtain ⟨a, C, H', rfl, hos, bare, u, hok, ⟨oe, vs, T, oT, ts, x1, x2, x3, x4, x5, x6, x7, x8, x9, x10, x11, x12⟩, ex, sm⟩ := h
  have FF : s'.heap.FunFrames base (cxm P w K mg base N qual scope f cd A outer s H E).stack := frames_un u (fun _ m => m) (fun b m => I.stkFree b m) I.stack
  show wpAny (model P w) (A.deeper (envOfC qual scope s.heap.objs.size f cd)) (leaving (envOfC qual scope s.heap.objs.size f cd) (.ref a)) _ _ s'
  refine wpAny_mono (any_K2 (fl_leaving _ _) (wpAny_leaving_next (Q := fun _ s2 => ∃ h'', s2 = { s' with heap := h'' } ∧ Heap.Left (PySem.W.hideAll s'.heap (a :: ([T] ++ frs (cxm P w K mg base N qual scope f cd A outer s H E).stack))) (cxm P w K mg base N qual scope f cd A outer s H E).stack a oe.cls s'.heap h'') (base := PySem.W.hideAll s'.heap (a :: ([T] ++ frs (cxm P w K mg base N qual scope f cd A outer s H E).stack))) (outer := outer) (L := s.heap.objs.size) (cls := oe.cls) I.ok.frames ?_ rfl
    ⟨oe, vs, T, oT, ts, x1, rfl, x3, x4, PySem.W.hideAll_none _ (by simp), x5, x6, x7, x8⟩ (fun b o e => PySem.W.of_hideAll _ e) (PySem.W.hideAll_none _ (by simp)) fun h'' L => ⟨h'', rfl, L⟩)) (fun _ s2 q => ?_) (fun _ _ q => q.1)
  · exact PySem.W.funFrames_hide FF fun env he b hb => List.mem_cons_of_mem _ (List.mem_append_right _ (List.mem_filterMap.mpr ⟨env, he, hb⟩))
  · obtain ⟨⟨h'', rfl, L⟩, k2⟩ := q
    exact left_cx (Ts := [T]) k2 x1 x3 x2 I u hos bare hok x9 x11 (fun T' m => by simp at m; subst m; exact ⟨x10, x12⟩) FF L (hE C H' ex sm)
structure Pa (X : Cx) (H0 : Hp) (Ex : Value → Prop) : Prop where
  go : Passes (CXm X.prog X.w) X (Exk H0 Ex)
theorem pa_cx {Ex : Value → Prop} {H0 : Hp} (hE : ∀ C H', Ex C → Same H0 H' → E C none H') : Pa (cxm P w K mg base N qual scope f cd A outer s H E) H0 Ex := ⟨pass_cx hE⟩
end
theorem fe_callX {X : Cx} {H0 : Hp} {Ex : Value → Prop} {x : Str} {n k : Nat} {F : List D → Res D} {p pos : Pos} {e : Expr} {es : List Expr} {fa : FEnv → Res (List D)} (c : Cal X.prog X.w X.K X.mg X.base x n F k) (hx : Pa X H0 Ex) (hr : Room k X.A) (hg : Gl X x) (ha : FA X H0 Ex (e :: es) fa) (hn : (e :: es).length = n := by rfl)
    (hdb : (x == ("__debug__" : Str)) = false := by decide) (he : starEach (e :: es) X.env = (false, eval e X.env) :: starEach es X.env := by rfl) (hpl : (backTo pos (starEach es X.env)).any (·.1) = false := by rfl) :
    FE X H0 Ex (.Call (.Name x p) (e :: es) [] pos) (fCallN n F fa) := by
  obtain ⟨f, fd, ps, G, hm, hk, hb⟩ := c.ex
  exact fe_call G hr hg hm hk hb hx.go ha hn hdb he hpl
def veMro : List Value := [.type "ValueError", .type "Exception", .type "BaseException", .type "object"]
structure XCls (K : PySem.W.Frag) (mg : Str → Option Value) (x : Str) (C : Addr) : Prop where
  bound : mg x = some (.ref C)
  obj : ∀ h : Heap, K.In h → ∃ bm N nm q bs hdct sn sub ab col dd k0 k1 k2 k3 k5 mN, h.get? C = some (excClassObj nm q C N bs bm hdct sn sub ab col dd k0 k1 k2 k3 k5 "ValueError.__new__") ∧ h.Ns N mN ∧ mN "__init__" = none ∧ OwnTail h veMro bm
theorem xcls_of {K : PySem.W.Frag} {mg : Str → Option Value} {x : Str} {C : Addr} (hb : mg x = some (.ref C)) (hc : PySem.W.excIn K C veMro "ValueError.__new__" = true) : XCls K mg x C := by
  refine ⟨hb, fun h hK => ?_⟩
  unfold PySem.W.excIn at hc
  split at hc
  · rename_i dd cl sl look
    split at hc
    · rename_i C2 rest y0 y1 y2 y3 nn y5 hmro hslots
      simp only [Bool.and_eq_true, beq_iff_eq, Bool.not_eq_true'] at hc
      have c1 := hc.1.1.1.1.1
      have c2 := hc.1.1.1.1.2
      have c3 := hc.1.1.1.2
      have c4 := hc.1.1.2
      have c5 := hc.1.2
      have c6 := hc.2
      subst c1 c2
      have es : sl = #[y0, y1, y2, y3, some (.builtin "ValueError.__new__"), y5] := Array.ext' hslots
      subst es
      have ob := hK _ _ look
      cases cl
      dsimp only at hmro c3 c5 c6
      subst hmro c3
      exact ⟨rest, _, _, _, _, _, _, _, _, _, _, _, _, _, _, _, _, ob, .of_isNs (PySem.W.isNs_of_in hK c5), PySem.W.nsMap_none_of_in hK c5 c6, PySem.W.tail_of_in hK c4⟩
    · cases hc
  · cases hc
section
variable {P : Program} {w : World} {K : PySem.W.Frag} {mg : Str → Option Value} {base : Heap} {N : List Str} {qual : Str} {scope : Scope} {f : Addr} {cd : Value} {A : Around} {outer : List Env} {s : Shared} {H : Hp} {E : XK}
theorem made_left {pins : List (Addr × Obj)} {σ : St} {H2 : Hp} {s2 : Shared} {h' : Heap} {e : Addr} {oe : Obj} {vs : Array Value} {C : Value} (I2 : Inv (cxm P w K mg base N qual scope f cd A outer s H E) pins σ H2 s2) (kp : ∀ b o, s2.heap.get? b = some o → h'.get? b = some o)
    (new : s2.heap.get? e = none) (he : h'.get? e = some oe) (hd : oe.data = .fields vs) (h1 : vs[1]? = some .none) (xc : XC C oe.cls vs) (hE : E C none H2) : (cxm P w K mg base N qual scope f cd A outer s H E).xe (.ref e) { s2 with heap := h' } := by
  have hu : Un (frs (cxm P w K mg base N qual scope f cd A outer s H E).stack) [] H2 H2 s2.heap h' := Un.kept kp
  have FF : h'.FunFrames base (cxm P w K mg base N qual scope f cd A outer s H E).stack := frames_un hu (fun _ m => m) (fun b m => I2.stkFree b m) I2.stack
  have hne : H2 e = none := by
    cases qq : H2 e with
    | none => rfl
    | some o => obtain ⟨v, ev⟩ := obj_ex (I2.hok e o qq); rw [new] at ev; cases ev
  show wpAny (model P w) (A.deeper (envOfC qual scope s.heap.objs.size f cd)) (leaving (envOfC qual scope s.heap.objs.size f cd) (.ref e)) _ _ { s2 with heap := h' }
  refine wpAny_mono (any_K2 (fl_leaving _ _) (wpAny_leaving_first (s := { s2 with heap := h' }) (Q := fun _ s3 => ∃ h'', s3 = { s2 with heap := h'' } ∧ Heap.Left (PySem.W.hideAll h' (e :: ([] ++ frs (cxm P w K mg base N qual scope f cd A outer s H E).stack))) (cxm P w K mg base N qual scope f cd A outer s H E).stack e oe.cls h' h'') (base := PySem.W.hideAll h' (e :: ([] ++ frs (cxm P w K mg base N qual scope f cd A outer s H E).stack))) (outer := outer) (L := s.heap.objs.size) I2.ok.frames ?_ rfl he (fun b o e => PySem.W.of_hideAll _ e) (PySem.W.hideAll_none _ (by simp)) hd h1 fun h'' L => ⟨h'', rfl, L⟩)) (fun _ s3 q => ?_) (fun _ _ q => q.1)
  · exact PySem.W.funFrames_hide FF fun env he b hb => List.mem_cons_of_mem _ (List.mem_append_right _ (List.mem_filterMap.mpr ⟨env, he, hb⟩))
  · obtain ⟨⟨h'', rfl, L⟩, k2⟩ := q
    exact left_cx (Ts := []) (s' := { s2 with heap := h' }) k2 he hd xc I2 hu rfl I2.bare (I2.hok.kept kp) hne new (fun T' m => by simp at m) FF L hE
theorem fs_raise {Ex : Value → Prop} {H0 : Hp} {x : Str} {C : Addr} {words : Str} {j : Nat} {np p1 cpos pos : Pos} (O : XCls K mg x C) (hE : ∀ C H', Ex C → Same H0 H' → E C none H') (hg : Gl (cxm P w K mg base N qual scope f cd A outer s H E) x) (hd : (x == ("__debug__" : Str)) = false := by decide)
    (hs1 : starEach [.Constant (.str words) j p1] (cxm P w K mg base N qual scope f cd A outer s H E).env = (false, eval (.Constant (.str words) j p1) (cxm P w K mg base N qual scope f cd A outer s H E).env) :: starEach [] (cxm P w K mg base N qual scope f cd A outer s H E).env := by rfl) :
    FS (cxm P w K mg base N qual scope f cd A outer s H E) H0 Ex (.Raise (some (.Call (.Name x np) [.Constant (.str words) j p1] [] cpos)) none pos) (fun _ => .exc (.ref C)) := by
  refine ⟨?_⟩
  intro pins s1 σ H1 En I h
  obtain ⟨Hs, ρ, ⟨S, n⟩, p⟩ := h
  have p : Ex (.ref C) := p
  obtain ⟨bm, Na, nm, q, bs, hdct, sn, sub, ab, col, dd, k0, k1, k2, k3, k5, mN, hC, hN, hni, T⟩ := O.obj base I.mod.kin
  have FB := PySem.F.excBase_ValueError
  refine wpAny_Raise_call_subU (C := C) (nm := nm) (q := q) (N := Na) (bs := bs) (bm := bm) (hdct := hdct) (sn := sn) (sub := sub) (ab := ab) (col := col) (dd := dd) (k0 := k0) (k1 := k1) (k2 := k2) (k3 := k3) (k5 := k5)
    FB (by decide) FB (mN := mN) (T.hasType FB.hasBase) (I.ok.hd rfl) (by rw [hs1]; rfl) hni (ld_glob I hg O.bound ⟨rfl, ?_⟩ hd)
  rw [hs1]
  refine Calls.evalArgs_plain ?_
  have PAok := pa_cons (X := cxm P w K mg base N qual scope f cd A outer s H E) (e := .Constant (.str words) j p1) (es := []) pe_str pa_nil hs1
  have sp := PAok cpos pins s1 σ H1 (fun vs H' => vs.length = 1 ∧ H' = H1) I ⟨rfl, rfl⟩
  rw [hs1] at sp
  refine thn sp fun us s2 ⟨vs, H2, I2, rv, hl, e2⟩ => ?_
  subst e2
  refine ⟨rfl, ?_, I2.bk _ _ hC, hN.keeps I2.bk, T.keeps I2.bk, fun h' e hm => ?_⟩
  · show us.length ≤ sizeLine
    rw [← rv.length, hl]; decide
  · obtain ⟨t, ht, _, _⟩ := hm.there
    exact made_left I2 hm.keeps hm.new ht rfl rfl ⟨C, rfl, .inl ⟨rfl, rfl⟩⟩ (hE _ _ p S.same)
theorem dfx_ok {x : Str} {st : Stmt} {ps : List Str} {k : Nat} {g : FEnv → FOut} (U : Df K mg x st ps) (S : FnScope N ps (defScope st))
    (hbody : ∀ (f : Addr) (cdv : Value) (A : Around) (outer : List Env) (s : Shared) (H : Hp) (E : XK) (Ex : Value → Prop), (∀ C H', Ex C → Same H H' → E C none H') → Room k (A.deeper (envOfC x (defScope st) s.heap.objs.size f cdv)) →
      FSs (cxm P w K mg base N x (defScope st) f cdv A outer s H E) H Ex (defBody st) g) : Cal P w K mg base x ps.length (bodyF N.length g) (k + 1) := by
  obtain ⟨f, fd, F, hm, hb⟩ := U.ex
  exact ⟨f, fd, ps, fn_body F S fun cdv A outer s H E ds hr hl hx => ⟨g, hbody f cdv A outer s H E _ (fun C H' e sm => hx C e H' sm) hr, rfl⟩, hm, F.kp, hb⟩
end
end Mi
namespace Mi
open PySem PySem.Spec L2
open PyProof.Rows hiding St
def putFD (f : Str) (v : D) : List (Str × D) → List (Str × D)
  | [] => [(f, v)]
  | (g, u) :: r => if g = f then (g, v) :: r else (g, u) :: putFD f v r
theorem RepF.put {H : Hp} {f : Str} {v : V} {d : D} (h : Rep H v d) : ∀ {fs : List (Str × V)} {ds : List (Str × D)}, RepF H fs ds → RepF H (putF f v fs) (putFD f d ds)
  | _, _, .nil => .cons h .nil
  | _, _, .cons (k := g) q r => by
    unfold putF putFD
    split
    · exact .cons h r
    · exact .cons q (RepF.put h r)
theorem RepF.look {H : Hp} {f : Str} {d : D} : ∀ {fs : List (Str × V)} {ds : List (Str × D)}, RepF H fs ds → ds.lookup f = some d → ∃ v, fs.lookup f = some v ∧ Rep H v d
  | _, _, .nil, e => by simp at e
  | _, _, .cons (k := g) q r, e => by
    rw [List.lookup_cons] at e ⊢
    cases hb : f == g with
    | true => rw [hb] at e; cases e; exact ⟨_, rfl, q⟩
    | false => rw [hb] at e; exact RepF.look r e
theorem RepF.length {H : Hp} : ∀ {fs : List (Str × V)} {ds : List (Str × D)}, RepF H fs ds → fs.length = ds.length
  | _, _, .nil => rfl
  | _, _, .cons _ r => by simp [RepF.length r]
section
variable {Hs H0 H : Hp} {vs : List (Option V)} {ds : List (Option D)} {v : V} {d : D}
theorem SR.field {C : Addr} {t : Tg} {fs : List (Str × D)} {f : Str} {x : D} (S : SR Hs H0 H (some v :: vs) (some (.ins t C fs) :: ds)) (hx : fs.lookup f = some x) :
    ∃ a dx fvs u, v = .ref a ∧ H a = some (.ins C dx fvs) ∧ fvs.lookup f = some u ∧ SR Hs H0 H (some u :: vs) (some x.asF :: ds) := by
  obtain ⟨Hf, fp, O, F⟩ := S
  cases O with
  | cons h r =>
    cases h with
    | fz h _ =>
      cases h with
      | ins h q =>
        obtain ⟨u, hu, ru⟩ := q.look hx
        exact ⟨_, _, _, u, rfl, F.fh _ _ h, hu, Hf, _, .cons (.fz ru.asF x.asF_tag) r, F.subl (by simp)⟩
  | brw z h r =>
    cases h with
    | fz h z' => rw [z'] at z; cases z
    | ins _ h q =>
      obtain ⟨u, hu, ru⟩ := q.look hx
      exact ⟨_, _, _, u, rfl, h, hu, Hf, _, Own.cons (fp := []) (.fz ru.asF x.asF_tag) r, F⟩
end
section
variable {X : Cx} {Ex : Value → Prop} {H0 : Hp} {e o value : Expr} {f fa fv : FEnv → Res D} {pos pos' : Pos} {fld : Str} {C : Addr}
def dFld (C : Addr) (fld : Str) : D → Res D
  | .ins _ C' fs => if C' = C then ofOpt ((fs.lookup fld).map D.asF) else .bad
  | _ => .bad
theorem fe_fld (he : FE X H0 Ex e fa) (c : Cls X.K C) (na : NoAttr X.K C fld) (hb : attributeBase e fld X.env (eval e X.env) = eval e X.env := by rfl) : FE X H0 Ex (.Attribute e fld pos) (f1 (dFld C fld) fa) := by
  refine ⟨PE.pre (pe_fld he.go hb) ?_⟩
  rintro σ H Q ⟨Hs, ρ, ts, S, p⟩
  refine ⟨Hs, ρ, ts, S, (Post.bind p).imp fun d _ p1 v H1 S1 => ?_⟩
  cases d with
  | ins t C' fs =>
    by_cases hC : C' = C
    · subst hC
      have p1 : Post Ex (if C' = C' then ofOpt ((fs.lookup fld).map D.asF) else .bad) fun d => ∀ v H', SX Hs H0 H' ((v, d) :: ts) σ ρ → Q v H' := p1
      rw [if_pos rfl] at p1
      cases el : fs.lookup fld with
      | none => rw [el] at p1; exact p1.elim
      | some x =>
        rw [el] at p1
        have S1 : SR Hs H0 H1 (some v :: (tvs ts ++ σ)) (some (.ins t C' fs) :: (tds ts ++ ρ)) := S1
        obtain ⟨a, dx, fvs, u, rfl, hH, hu, S2⟩ := S1.field el
        exact ⟨a, C', dx, fvs, u, rfl, hH, c, na, hu, p1 u H1 S2⟩
    · have p1 : Post Ex (if C' = C then ofOpt ((fs.lookup fld).map D.asF) else .bad) fun d => ∀ v H', SX Hs H0 H' ((v, d) :: ts) σ ρ → Q v H' := p1
      rw [if_neg hC] at p1
      exact p1.elim
  | _ => exact p1.elim
def less2 (H : Hp) (x dx : Addr) : Hp := fun a => if a = x ∨ a = dx then none else H a
theorem less2_same {H : Hp} {x dx : Addr} : Same (less2 H x dx) H := fun a o e => by
  unfold less2 at e
  split at e
  · cases e
  · exact e
def spI (C : Addr) (n : Nat) (F : Addr → List D → Res (List (Str × D))) : Sp := fun vs H Q E => ∃ Hs us ds x dx, vs = .ref x :: us ∧ ds.length = n ∧ x ≠ dx ∧ H x = some (.ins C dx []) ∧ H dx = some (.own x) ∧ Hs x = none ∧ Hs dx = none ∧ Same Hs H ∧ Reps Hs us ds ∧ (∀ d ∈ ds, d.tag = .f) ∧
  match F x ds with
  | .ok fs => ∀ H', SR Hs (less2 H x dx) H' [some (.ref x)] [some (.slf x C fs)] → Q .non H'
  | .exc Cx => ∀ H', Same (less2 H x dx) H' → E Cx none H'
  | .bad => False
def initF (C : Addr) (N : Nat) (g : FEnv → FOut) (x : Addr) (ds : List D) : Res (List (Str × D)) := match g (some (D.slf x C []) :: (ds.map some ++ List.replicate (N - (ds.length + 1)) none)) with
  | .nx ρ => match ρ[0]? with
    | some (some (D.slf y C' fs)) => if y = x ∧ C' = C then .ok fs else .bad
    | _ => .bad
  | .exc Cx => .exc Cx
  | _ => .bad
open Classical in
noncomputable def everyF (F : Addr → List D → Res (List (Str × D))) (ds : List D) : Res (List (Str × D)) := if h : ∃ r, ∀ x, F x ds = r then choose h else .bad
theorem everyF_eq {F : Addr → List D → Res (List (Str × D))} {ds : List D} {r : Res (List (Str × D))} (h : ∀ x, F x ds = r) : everyF F ds = r := by
  unfold everyF
  rw [dif_pos ⟨r, h⟩]
  have := Classical.choose_spec (⟨r, h⟩ : ∃ r, ∀ x, F x ds = r)
  rw [← this 0, h 0]
theorem everyF_at {F : Addr → List D → Res (List (Str × D))} {ds : List D} (h : everyF F ds ≠ .bad) (x : Addr) : F x ds = everyF F ds := by
  unfold everyF at h ⊢
  split
  · rename_i q
    exact Classical.choose_spec q x
  · rename_i q
    rw [dif_neg q] at h
    exact absurd rfl h
structure Mak (P : Program) (w : World) (K : PySem.W.Frag) (mg : Str → Option Value) (base : Heap) (x : Str) (C : Addr) (n : Nat) (F : Addr → List D → Res (List (Str × D))) (k : Nat) : Prop where
  ex : ∃ f fd ps, FnOk P w K mg base (CXm P w) k f fd ps (spI C n F) ∧ mg x = some (.ref C) ∧ Mk K C f ∧ Binds K fd ps []
end
end Mi
namespace Mi
open PySem PySem.Spec L2
open PyProof.Rows hiding St
section
variable {X : Cx} {Ex : Value → Prop} {H0 : Hp} {a b c e tg : Expr} {f fa fb fc : FEnv → Res D} {pos : Pos}
def fChainI (p p' : Int → Int → Bool) (fa fb fc : FEnv → Res D) : FEnv → Res D := fun ρ => fa ρ >>= fun x => fb ρ >>= fun y => match x, y with
  | .int i, .int j => if p i j = true then fc ρ >>= fun z => match z with
    | .int k => .ok (.bl (p' j k))
    | _ => .bad
    else .ok (.bl false)
  | _, _ => .bad
theorem chain_ok {p p' : Int → Int → Bool} {σ : St} {H : Hp} {Q : VK} (h : TEF H0 Ex (fChainI p p' fa fb fc) σ H Q) :
    tChain (rI0 fun i j => .bl (p i j)) (rI0 fun i j => .bl (p' i j)) (TEF H0 Ex fa) (TEF H0 Ex fb) (TEF H0 Ex fc) σ H Q := by
  obtain ⟨Hs, ρ, ts, S, p0⟩ := h
  refine ⟨Hs, ρ, ts, S, (Post.bind p0).imp fun d1 _ p1 v1 H1 S1 => ⟨Hs, ρ, (v1, d1) :: ts, S1, (Post.bind p1).imp fun d2 _ p2 v2 H2 S2 => ?_⟩⟩
  have S2 : SR Hs H0 H2 (some v2 :: some v1 :: (tvs ts ++ σ)) (some d2 :: some d1 :: (tds ts ++ ρ)) := S2
  cases d1 with
  | int i =>
    cases d2 with
    | int j =>
      cases SR.isInt S2
      cases SR.isInt S2.drop
      refine ⟨i, j, rfl, rfl, p i j, rfl, ?_⟩
      have p2 : Post Ex (if p i j = true then fc ρ >>= fun z => match z with
        | .int k => .ok (.bl (p' j k))
        | _ => .bad
        else .ok (.bl false)) fun d => ∀ v H', SX Hs H0 H' ((v, d) :: ts) σ ρ → Q v H' := p2
      by_cases hc : p i j = true
      · rw [if_pos hc] at p2 ⊢
        refine ⟨Hs, ρ, ts, S2.drop.drop, (Post.bind p2).imp fun d3 _ p3 v3 H3 S3 => ?_⟩
        cases d3 with
        | int k =>
          have S3 : SR Hs H0 H3 (some v3 :: (tvs ts ++ σ)) (some (.int k) :: (tds ts ++ ρ)) := S3
          cases SR.isInt S3
          exact ⟨j, k, rfl, rfl, p3 _ H3 S3.drop.bl⟩
        | _ => exact p3.elim
      · rw [if_neg hc] at p2 ⊢
        exact p2 _ H2 S2.drop.drop.bl
    | _ => exact p2.elim
  | _ => exact p2.elim
theorem fe_chain {op op' : CmpOp} {p p' : Int → Int → Bool} (ho : OpR X (compareOp op) (rI0 fun i j => .bl (p i j))) (ho' : OpR X (compareOp op') (rI0 fun i j => .bl (p' i j))) (ha : FE X H0 Ex a fa) (hb : FE X H0 Ex b fb) (hc : FE X H0 Ex c fc)
    (hm : lastMarks [op, op'] [b, c] = false := by with_unfolding_all rfl) : FE X H0 Ex (.Compare a [op, op'] [b, c] pos) (fChainI p p' fa fb fc) :=
  ⟨PE.pre (pe_chain ho ho' ha.go hb.go hc.go hm) fun _ _ _ h => chain_ok h⟩
theorem ft_chain {op op' : CmpOp} {p p' : Int → Int → Bool} (ho : OpR X (compareOp op) (rI0 fun i j => .bl (p i j))) (ho' : OpR X (compareOp op') (rI0 fun i j => .bl (p' i j))) (ha : FE X H0 Ex a fa) (hb : FE X H0 Ex b fb) (hc : FE X H0 Ex c fc)
    (hm : lastMarks [op, op'] [b, c] = false := by with_unfolding_all rfl) : FT X H0 Ex (.Compare a [op, op'] [b, c] pos) (ftB (fChainI p p' fa fb fc)) := by
  refine ⟨PT.pre (pt_chain ho ho' ha.go hb.go hc.go hm) ?_⟩
  rintro σ H Q ⟨Hs, ρ, ts, S, p⟩
  refine chain_ok ⟨Hs, ρ, ts, S, (Post.bind p).imp fun d _ p1 v H1 S1 => ?_⟩
  obtain ⟨b, rfl, k⟩ := asB_ok p1
  exact ⟨b, SR.isBl S1, k H1 S1.drop⟩
def tyN : D → Option String
  | .non => some "NoneType"
  | .bl _ => some "bool"
  | .int _ => some "int"
  | .str _ => some "str"
  | .lst _ _ => some "list"
  | .scr _ => some "list"
  | .tup _ => some "tuple"
  | .dic _ _ => some "dict"
  | _ => none
def isSub (t T : String) : Bool := t == T || (t == "bool" && T == "int")
def dIsT (T : String) : D → Res D := fun d => match tyN d with
  | some t => .ok (.bl (isSub t T))
  | none => .bad
def KT (K : PySem.W.Frag) (T : String) : Prop := ∀ t ∈ ["NoneType", "bool", "int", "str", "list", "tuple", "dict"], PySem.W.kitOne K (.type t) (.type T) = some (isSub t T)
theorem tyN_of {K : PySem.W.Frag} {H : Hp} {v : V} {d : D} {t : String} (r : Rep H v d) (h : tyN d = some t) : TyOf K H v (.type t) ∧ t ∈ ["NoneType", "bool", "int", "str", "list", "tuple", "dict"] := by
  cases r with
  | non => cases h; exact ⟨.non, by decide⟩
  | bl => cases h; exact ⟨.bl _, by decide⟩
  | int => cases h; exact ⟨.int _, by decide⟩
  | str => cases h; exact ⟨.str _, by decide⟩
  | lst q _ => cases h; exact ⟨.lst q, by decide⟩
  | tup q _ => cases h; exact ⟨.tup q, by decide⟩
  | dic q _ => cases h; exact ⟨.dT q, by decide⟩
  | exc => cases h
  | scr q => cases h; exact ⟨.frz q, by decide⟩
  | ins _ _ => cases h
  | slf _ _ => cases h
theorem call_isT {T : String} (hK : KT X.K T) : CallR X (.builtin "isinstance") fun us H Q => ∃ x t, us = [x, .ty T] ∧ TyOf X.K H x (.type t) ∧ t ∈ ["NoneType", "bool", "int", "str", "list", "tuple", "dict"] ∧ Q (.bl (isSub t T)) H := by
  intro pins s σ H xs us Q I r h
  obtain ⟨x, t, rfl, ty, ht, q⟩ := h
  cases r with
  | cons r1 r2 =>
    cases r2 with
    | cons r3 r4 =>
      cases r4
      cases r3
      exact isinst_ok I r1 ty (hK t ht) fun tk => ⟨.bl _, H, I.tok tk, rfl, q⟩
theorem fe_isT {T : String} {x : Str} {p p2 : Pos} (hK : KT X.K T) (he : FE X H0 Ex e f) (hg : Gl X "isinstance") (hm : X.mg "isinstance" = none) (hgT : Gl X x) (hmT : X.mg x = none) (hv : bootBuiltins x = some (.type T)) (hn : x ≠ "__name__" := by decide) (hd : (x == ("__debug__" : Str)) = false := by decide)
    (h1 : starEach [e, .Name x p2] X.env = (false, eval e X.env) :: starEach [.Name x p2] X.env := by rfl) (h2 : starEach [.Name x p2] X.env = (false, eval (.Name x p2) X.env) :: starEach [] X.env := by rfl) (h3 : (backTo pos (starEach [.Name x p2] X.env)).any (·.1) = false := by rfl) :
    FE X H0 Ex (.Call (.Name "isinstance" p) [e, .Name x p2] [] pos) (f1 (dIsT T) f) := by
  have hb : bootBuiltins "isinstance" = some (.builtin "isinstance") := by decide +kernel
  refine ⟨PE.pre (pe_callB (call_isT hK) hg hm hb (pa_cons he.go (pa_cons (pe_bltn (v := .ty T) hgT hmT hv rfl hn hd) pa_nil h2) h1) (by decide) (by decide) h1 h3) ?_⟩
  rintro σ H Q ⟨Hs, ρ, ts, S, p⟩
  refine ⟨Hs, ρ, ts, S, (Post.bind p).imp fun d _ p1 v H1 S1 => ?_⟩
  unfold dIsT at p1
  split at p1
  · rename_i t ht
    have S1 : SR Hs H0 H1 (some v :: (tvs ts ++ σ)) (some d :: (tds ts ++ ρ)) := S1
    obtain ⟨ty, hm⟩ := tyN_of (K := X.K) S1.head ht
    exact ⟨v, t, rfl, ty, hm, p1 _ H1 S1.drop.bl⟩
  · exact p1.elim
end
end Mi
namespace Mi
open PySem PySem.Spec L2
open PyProof.Rows hiding St
def Fly (h0 : Heap) (st : List Env) (a T : Addr) (C : Value) (h : Heap) : Prop :=
  ∃ a0, Heap.FlyingW (PySem.W.hideAll h0 (a :: T :: frs st)) st a C a0 h ∧ h0.UpToSlots h
section
variable {X : Cx} {pins : List (Addr × Obj)} {σ : St} {H1 H' : Hp} {s1 s' : Shared} {a T : Addr} {C : Value} {h : Heap}
theorem fly_inv {tk : Nat} (I : Inv X pins σ H1 s1) (hos : s'.os = s1.os) (bare : AllBare s'.gens) (u : Un (frs X.stack) [] H1 H' s1.heap s'.heap) (hok : HOk X.prog X.w H' s'.heap) (ha : H' a = none) (hT : H' T = none) (na : s1.heap.get? a = none) (nT : s1.heap.get? T = none)
    (F : Fly s'.heap X.stack a T C h) : Inv X pins σ H' { s' with heap := h, toks := tk } := by
  obtain ⟨a0, ⟨st, _, _, _⟩, up⟩ := F
  have kB : ∀ b o, s'.heap.get? b = some o → b ≠ a → b ≠ T → b ∉ frs X.stack → h.get? b = some o := fun b o e h1 h2 h3 => st b o (PySem.W.hideAll_get _ e fun m => by
    rcases List.mem_cons.mp m with z | m
    · exact h1 z
    · exact (List.mem_cons.mp m).elim h2 h3)
  have frN : ∀ b ∈ frs X.stack, H' b = none := fun b m => by
    obtain ⟨_, o, ho, _⟩ := I.stack.mem m
    exact u.free b o ho (I.stkFree b m) (by simp)
  have FF : s'.heap.FunFrames X.base X.stack := frames_un u (fun _ m => m) (fun b m => I.stkFree b m) I.stack
  have ne : ∀ b o, s1.heap.get? b = some o → b ≠ a ∧ b ≠ T := fun b o e => ⟨fun z => (by rw [z, na] at e; cases e), fun z => (by rw [z, nT] at e; cases e)⟩
  have slotB : ∀ b o, s'.heap.get? b = some o → b ∈ frs X.stack → ∃ sl, h.get? b = some { o with slots := sl } := fun b o e m => by
    obtain ⟨_, o', ho', hd⟩ := FF.mem m
    rw [e] at ho'
    cases ho'
    exact up b o e hd
  refine I.call' (s' := { s' with heap := h, toks := tk }) (ch := []) hos ⟨fun b o e n hb hx => ?_, fun b o e n hb hx => ?_, u.free, fun b o e hx => ?_, u.tups, u.frzs, u.tbls⟩ (fun b ob e => ?_) bare (fun _ z => nomatch z)
  · exact kB b o (u.keep b o e n hb hx) (ne b o e).1 (ne b o e).2 hb
  · obtain ⟨sl, e1⟩ := u.slot b o e n hb hx
    obtain ⟨sl2, e2⟩ := slotB b _ e1 hb
    exact ⟨sl2, e2⟩
  · obtain ⟨o1, e1⟩ := u.there b o e hx
    by_cases hst : b ∈ frs X.stack
    · obtain ⟨sl2, e2⟩ := slotB b _ e1 hst
      exact ⟨_, e2⟩
    · exact ⟨o1, kB b o1 e1 (ne b o e).1 (ne b o e).2 hst⟩
  · refine (hok b ob e).stay (fun c v hc q => kB c v q ?_ ?_ ?_) (fun _ q => q) fun _ _ q => q
    · rintro rfl
      rcases hc with rfl | hc
      · rw [ha] at e; cases e
      · rw [ha] at hc; cases hc
    · rintro rfl
      rcases hc with rfl | hc
      · rw [hT] at e; cases e
      · rw [hT] at hc; cases hc
    · intro m
      have := frN c m
      rcases hc with rfl | hc
      · rw [this] at e; cases e
      · rw [this] at hc; cases hc
theorem Inv.gone {m : Str → Option Value} {tk : Nat} (I : Inv X pins σ H1 s1) (hn : h.Ns X.env.locals m) (hs : Heap.SameBut X.env.locals s1.heap h) : Inv X pins (List.replicate X.N.length none) H1 { s1 with heap := h, toks := tk } := by
  obtain ⟨m0, hn0, _⟩ := id I.loc
  obtain ⟨oL, _, _, hoL, _⟩ := id hn0
  refine ⟨I.ok, I.os, I.bare, ⟨fun b o e n hb hx => ?_, fun b o e n hb hx => ?_, I.base.free, fun b o e hx => ?_, I.base.tups, I.base.frzs, I.base.tbls⟩, ⟨m, hn, fun j y v' e1 e2 e3 => ?_⟩, fun y c e => ?_, I.free, I.freeC, fun p hp => ?_, fun b ob e => ?_, by simp⟩
  · exact (hs.2 b (Nat.ne_of_lt (Nat.lt_of_lt_of_le (Heap.lt_size e) I.ok.above))).trans (I.base.keep b o e n hb hx)
  · obtain ⟨sl, e1⟩ := I.base.slot b o e n hb hx
    exact ⟨sl, (hs.2 b (Nat.ne_of_lt (Nat.lt_of_lt_of_le (Heap.lt_size e) I.ok.above))).trans e1⟩
  · obtain ⟨o', e1⟩ := I.base.there b o e hx
    exact ⟨o', (hs.2 b (Nat.ne_of_lt (Nat.lt_of_lt_of_le (Heap.lt_size e) I.ok.above))).trans e1⟩
  · have := List.mem_of_getElem? e2
    rw [List.mem_replicate] at this
    cases this.2
  · obtain ⟨w', z⟩ := I.cell y c e
    exact ⟨w', z.sameBut hs (I.cne y c e)⟩
  · obtain ⟨e, n, ne, nf, d⟩ := I.pin p hp
    exact ⟨(hs.2 p.1 ne).trans e, n, ne, nf, d⟩
  · refine (I.hok b ob e).stay (fun c w' hc q => (hs.2 c ?_).trans q) (fun _ q => q) fun _ _ q => q
    rintro rfl
    rcases hc with rfl | hc
    · rw [I.free] at e; cases e
    · rw [I.free] at hc; cases hc
end
end Mi
namespace Mi
open PySem PySem.Spec L2
open PyProof.Rows hiding St
abbrev Cx.att (X : Cx) (E : Value → Shared → Prop) (pn : List (Addr × Obj)) : Cx := { X with xe := E, pn := pn }
abbrev Cx.han (X : Cx) (a : Addr) (E : Value → Shared → Prop) : Cx := { X with A := X.A.mark (some (.ref a)), calm := false, xe := E }
section
variable {X : Cx} {pins pins' : List (Addr × Obj)} {σ : St} {H : Hp} {s : Shared} {E : Value → Shared → Prop}
theorem Cx.Ok.att {pn} (ok : X.Ok) : (Cx.att X E pn).Ok := ⟨ok.mod, ok.kind, ok.glob, ok.blt, ok.above, ok.inj, ok.has, ok.cab, ok.hd, ok.frames, ok.stk, ok.exf, ok.bs, ok.bsz, ok.noex, ok.exfs, ok.funs, ok.frf⟩
theorem Cx.Ok.unatt {pn} (ok : (Cx.att X E pn).Ok) : X.Ok := ⟨ok.mod, ok.kind, ok.glob, ok.blt, ok.above, ok.inj, ok.has, ok.cab, ok.hd, ok.frames, ok.stk, ok.exf, ok.bs, ok.bsz, ok.noex, ok.exfs, ok.funs, ok.frf⟩
theorem Inv.att (I : Inv X pins σ H s) : Inv (Cx.att X E (X.pn ++ pins)) [] σ H s := ⟨Cx.Ok.att I.ok, I.os, I.bare, I.base, I.loc, I.cell, I.free, I.freeC, fun p hp => I.pin p (by simpa using hp), I.hok, I.len⟩
theorem Inv.unatt (I : Inv (Cx.att X E (X.pn ++ pins)) pins' σ H s) : Inv X pins σ H s := ⟨Cx.Ok.unatt I.ok, I.os, I.bare, I.base, I.loc, I.cell, I.free, I.freeC, fun p hp => I.pin p (List.mem_append_left _ hp), I.hok, I.len⟩
theorem SP.unatt {D : Ends} {f : Flow} (h : SP (Cx.att X E (X.pn ++ pins)) pins' D f s) : SP X pins D f s := by
  cases f with
  | next => obtain ⟨σ, H, I, q⟩ := h; exact ⟨σ, H, Inv.unatt I, q⟩
  | brk => obtain ⟨σ, H, I, q⟩ := h; exact ⟨σ, H, Inv.unatt I, q⟩
  | cont => obtain ⟨σ, H, I, q⟩ := h; exact ⟨σ, H, Inv.unatt I, q⟩
  | ret u => obtain ⟨v, σ, H, I, r, q⟩ := h; exact ⟨v, σ, H, Inv.unatt I, r, q⟩
theorem Inv.han {a : Addr} (I : Inv X pins σ H s) : Inv (Cx.han X a E) pins σ H s := ⟨⟨I.ok.mod, I.ok.kind, I.ok.glob, I.ok.blt, I.ok.above, I.ok.inj, I.ok.has, I.ok.cab, (fun z => nomatch z), I.ok.frames, I.ok.stk, I.ok.exf, I.ok.bs, I.ok.bsz, I.ok.noex, I.ok.exfs, I.ok.funs, I.ok.frf⟩, I.os, I.bare, I.base, I.loc, I.cell, I.free, I.freeC, I.pin, I.hok, I.len⟩
theorem Inv.unhan {a : Addr} (I : Inv (Cx.han X a E) pins σ H s) (ok : X.Ok) : Inv X pins σ H s := ⟨ok, I.os, I.bare, I.base, I.loc, I.cell, I.free, I.freeC, I.pin, I.hok, I.len⟩
end
section
variable {X : Cx} {Ex : Value → Prop} {H0 : Hp} {g : FEnv → FOut} {body : List Stmt} {i : Nat} {n cn dn : Str} {C Dc : Addr} {p1 p2 p3 p4 p5 p6 p7 pos : Pos}
end
end Mi
namespace Mi
open PySem PySem.Spec L2
open PyProof.Rows hiding St
def asc (x : Str) : Bool := x.cps.all (· < 128)
def lets (x : Str) : List D := x.cps.toList.map fun c => .str ⟨#[c]⟩
def Its (x : Str) : It := ⟨fun i _ => i < x.cps.size, fun i H v H' => H' = H ∧ ∃ c, x.cps[i]? = some c ∧ v = .str ⟨#[c]⟩, fun i _ => x.cps.size ≤ i⟩
theorem its_ok {x : Str} {B : Hp} : ItOk (Its x) B (lets x) := by
  intro H s i
  refine ⟨fun d hd => ?_, fun hi => (show x.cps.size ≤ i from Nat.le_of_eq (by simpa [lets] using hi.symm))⟩
  simp only [lets, List.getElem?_map] at hd
  cases e : x.cps.toList[i]? with
  | none => rw [e] at hd; cases hd
  | some c =>
    rw [e] at hd
    cases hd
    have e' : x.cps[i]? = some c := by simpa using e
    refine ⟨(Array.getElem?_eq_some_iff.mp e').1, fun v H' ⟨e1, c', e2, e3⟩ => ⟨rfl, .inl ⟨e1, ?_⟩⟩⟩
    rw [e'] at e2
    cases e2
    rw [e3]
    exact .str
theorem turn_asc {P : Program} {w : World} {K : PySem.W.Frag} {tg : Expr} {x : Str} {t : Tok} (it : Addr) : Turn P w K tg (Its x) [it] it (fun i h => h.IsStrIter it "str_ascii_iterator" x t i) where
  mem := List.mem_singleton.mpr rfl
  obj := fun i h st b hb => by
    cases List.mem_singleton.mp hb
    obtain ⟨o, e, _, d⟩ := st
    exact ⟨o, e, fun v z => by rw [d] at z; cases z⟩
  keep := fun i h h' st k => let ⟨o, e, r⟩ := st; ⟨o, k it (List.mem_singleton.mpr rfl) o e, r⟩
  item := by
    intro X e1 e2 e3 hc i pins s σ H E I hf st hg
    subst e1 e2 e3
    obtain ⟨g0, g1, _, g3, g4, g5⟩ := hf it (List.mem_singleton.mpr rfl)
    refine wpAny_pyNext_ascii_item st (c := x.cps[i]'hg) (Array.getElem?_eq_getElem hg) fun h' st' sb => ?_
    have J : Inv X pins σ H { s with heap := h', toks := s.toks + 1 } := I.turned (fun b o hb e => (sb.2 b hb).trans e) g0 g1 g3 g4 g5
    obtain ⟨o, e, c, d⟩ := id st'
    exact ⟨_, rfl, go_of (s := { s with heap := h', toks := s.toks + 1 }) e c d (by decide) ⟨.str _, H, J, ⟨_, rfl⟩, ⟨rfl, _, Array.getElem?_eq_getElem hg, rfl⟩, st', fun b hb => (hf b hb).1⟩⟩
  done := by
    intro X e1 e2 e3 hc i pins s σ H E I hf st hg
    subst e1 e2 e3
    obtain ⟨g0, g1, _, g3, g4, g5⟩ := hf it (List.mem_singleton.mpr rfl)
    have hg : x.cps.size ≤ i := hg
    exact wpAny_pyNext_ascii_end (I.ok.hd hc) st (Array.getElem?_eq_none hg) fun h' eb => ⟨rfl, I.turned (t' := s.toks) (fun b o hb e => eb b o hb e) g0 g1 g3 g4 g5⟩
  self := fun _ _ _ _ _ st h => wpAny_pyIter_striter_ascii st h
section
variable {X : Cx} {Ex : Value → Prop} {H0 : Hp} {e tg : Expr} {f : FEnv → Res D} {tl : TE}
def iAny (K : PySem.W.Frag) (tl : TE) : TI := fun σ H R => tl σ H fun v H1 => (∃ a, v = .ref a ∧ (∃ xs, SqL K H1 a xs) ∧ R (Itl K a) H1) ∨ (∃ a, v = .ref a ∧ (∃ xs, SqT K H1 a xs) ∧ R (Itt K a) H1) ∨ ∃ x, v = .str x ∧ asc x = true ∧ R (Its x) H1
theorem pi_any (hl : PE X e tl) : PI X tg e (iAny X.K tl) := by
  intro pins s σ H R I h
  refine thn (hl pins s σ H _ I h) fun v s1 ⟨x, H1, I1, r1, q1⟩ => ?_
  have fresh : ∀ b ∈ [s1.heap.objs.size], FpOk X pins H1 b := fun b hb => by
    cases List.mem_singleton.mp hb
    exact I1.fpOk (Nat.le_refl _) (I1.hok.fresh (Nat.le_refl _))
  rcases q1 with ⟨a, rfl, ⟨xs, hq⟩, q⟩ | ⟨a, rfl, ⟨xs, hq⟩, q⟩ | ⟨z, rfl, ha, q⟩
  · cases r1
    obtain ⟨its, rv, p, _⟩ := I1.list hq
    exact wpAny_pyIter_list p.isList ⟨s1.heap.objs.size, [s1.heap.objs.size], _, _, H1, rfl, I1.kept (t' := s1.toks) (fun b o e => Heap.get?_push_of_some _ e), turn_list a _, ⟨_, Heap.get?_push_size _ rfl, rfl, rfl⟩, fresh, q⟩
  · cases r1
    obtain ⟨its, rv, p, _⟩ := I1.tuple hq
    exact wpAny_pyIter_tuple (show s1.heap.IsTuple a its.toArray from p) ⟨s1.heap.objs.size, [s1.heap.objs.size], _, _, H1, rfl, I1.kept (t' := s1.toks) (fun b o e => Heap.get?_push_of_some _ e), turn_tuple a _, ⟨_, Heap.get?_push_size _ rfl, rfl, rfl⟩, fresh, q⟩
  · obtain ⟨t, rfl⟩ := r1
    exact wpAny_pyIter_ascii ha ⟨s1.heap.objs.size, [s1.heap.objs.size], _, _, H1, rfl, I1.kept (t' := s1.toks) (fun b o e => Heap.get?_push_of_some _ e), turn_asc _, ⟨_, Heap.get?_push_size _ rfl, rfl, rfl⟩, fresh, q⟩
theorem itt_ok {K : PySem.W.Frag} {B : Hp} {a : Addr} {us : List V} {ds : List D} (h : B a = some (.tup us)) (R : Reps B us ds) (t : ∀ e ∈ ds, e.tag = .f) : ItOk (Itt K a) B ds := by
  intro H s i
  have hl := R.length
  refine ⟨fun d hd => ?_, fun hi => ⟨us, SqT.of (s _ _ h), by omega⟩⟩
  obtain ⟨u, hu, ru⟩ := R.get hd
  refine ⟨⟨us, u, SqT.of (s _ _ h), hu⟩, fun x H' ⟨e, y⟩ => ⟨t d (List.mem_of_getElem? hd), .inl ⟨e, ?_⟩⟩⟩
  have := y us (SqT.of (s _ _ h))
  rw [hu] at this
  cases this
  exact ru
def fiAny (f : FEnv → Res D) : FEnv → Res (List D) := fun ρ => f ρ >>= fun d => match d with
  | .str x => if asc x = true then .ok (lets x) else .bad
  | d => if d.tag = .b then .bad else ofOpt d.its
theorem fi_any (he : FE X H0 Ex e f) : FI X H0 Ex tg e (fiAny f) := by
  refine ⟨PI.pre (pi_any he.go) ?_⟩
  rintro σ H R ⟨Hs, ρ, ts, S, p⟩
  refine ⟨Hs, ρ, ts, S, (Post.bind p).imp fun d _ p1 v H1 S1 => ?_⟩
  have seq : Post Ex (if d.tag = .b then .bad else ofOpt d.its) (fun items => ∀ J H' Hf fp, ItOk J Hf items → Own Hf H' fp (tvs ts ++ σ) (tds ts ++ ρ) → Fine Hs H0 Hf H' fp → R J H') → (∃ a, v = .ref a ∧ (∃ xs, SqL X.K H1 a xs) ∧ R (Itl X.K a) H1) ∨ (∃ a, v = .ref a ∧ (∃ xs, SqT X.K H1 a xs) ∧ R (Itt X.K a) H1) ∨ ∃ x, v = .str x ∧ asc x = true ∧ R (Its x) H1 := by
    intro p1
    split at p1
    · exact p1.elim
    · rename_i tb
      cases e : d.its with
      | none => rw [e] at p1; exact p1.elim
      | some ys =>
        rw [e] at p1
        obtain ⟨Hf, fp, O, F⟩ := S1
        obtain ⟨a, us, rfl, Hg, fq, O', F', _, ha, R⟩ := O.itemsC F e tb
        cases il : d.isL with
        | true =>
          rw [il] at ha
          exact .inl ⟨a, rfl, ⟨us, SqL.of (F'.fh _ _ ha)⟩, p1 _ H1 Hg fq (itl_ok ha R (D.its_tag e)) O' F'⟩
        | false =>
          rw [il] at ha
          exact .inr (.inl ⟨a, rfl, ⟨us, SqT.of (F'.fh _ _ ha)⟩, p1 _ H1 Hg fq (itt_ok ha R (D.its_tag e)) O' F'⟩)
  cases d with
  | str x =>
    have p1 : Post Ex (if asc x = true then .ok (lets x) else .bad) (fun items => ∀ J H' Hf fp, ItOk J Hf items → Own Hf H' fp (tvs ts ++ σ) (tds ts ++ ρ) → Fine Hs H0 Hf H' fp → R J H') := p1
    split at p1
    · rename_i hx
      have S1 : SR Hs H0 H1 (some v :: (tvs ts ++ σ)) (some (.str x) :: (tds ts ++ ρ)) := S1
      cases SR.isStr S1
      obtain ⟨Hf, fp, O, F⟩ := S1.drop
      exact .inr (.inr ⟨x, rfl, hx, p1 _ H1 Hf fp its_ok O F⟩)
    · exact p1.elim
  | _ => exact seq p1
end
end Mi
namespace Mi
open PySem PySem.Spec L2
open PyProof.Rows hiding St
def allO : List (Option Bool) → Option Bool
  | [] => some true
  | none :: _ => none
  | some b :: r => match allO r with
    | some c => some (b && c)
    | none => none
def deqN : Nat → D → D → Option Bool
  | _, .int i, .int j => some (decide (i = j))
  | _, .str i, .str j => some (decide (i = j))
  | n + 1, .lst _ xs, .lst _ ys => if xs.length = ys.length then allO ((xs.zip ys).map fun p => deqN n p.1 p.2) else some false
  | n + 1, .tup xs, .tup ys => if xs.length = ys.length then allO ((xs.zip ys).map fun p => deqN n p.1 p.2) else none
  | _, _, _ => none
theorem allO_mem : ∀ {l : List (Option Bool)} {b : Bool}, allO l = some b → ∃ e : Nat → Bool, (∀ j, j < l.length → l[j]? = some (some (e j))) ∧ b = (List.range l.length).all e
  | [], b, h => ⟨fun _ => true, fun j hj => by simp at hj, by simp [allO] at h; simp [← h]⟩
  | none :: r, b, h => by simp [allO] at h
  | some a :: r, b, h => by
    unfold allO at h
    cases e : allO r with
    | none => rw [e] at h; cases h
    | some c =>
      rw [e] at h
      have h : (a && c) = b := Option.some.inj h
      obtain ⟨f, h1, h2⟩ := allO_mem e
      refine ⟨fun j => match j with | 0 => a | j + 1 => f j, fun j hj => ?_, ?_⟩
      · cases j with
        | zero => rfl
        | succ j => simpa using h1 j (by simpa using hj)
      · rw [← h, h2, List.length_cons, List.range_succ_eq_map, List.all_cons, List.all_map]
        rfl
theorem same_deq {H : Hp} : ∀ (n : Nat) {v : V} {d d' : D} {b : Bool}, Rep H v d → Rep H v d' → deqN n d d' = some b → b = true := by
  have seqs : ∀ (n : Nat), (∀ {v : V} {d d' : D} {b : Bool}, Rep H v d → Rep H v d' → deqN n d d' = some b → b = true) → ∀ {us : List V} {xs ys : List D} {b : Bool}, Reps H us xs → Reps H us ys → allO ((xs.zip ys).map fun p => deqN n p.1 p.2) = some b → b = true := by
    intro n ih us
    induction us with
    | nil => intro xs ys b r1 r2 h; cases r1; cases r2; simp [allO] at h; first | exact h | exact h.symm
    | cons u us ihu =>
      intro xs ys b r1 r2 h
      cases r1 with
      | cons a1 b1 =>
        cases r2 with
        | cons a2 b2 =>
          rename_i d1 ds1 d2 ds2
          rw [List.zip_cons_cons, List.map_cons] at h
          cases e : deqN n d1 d2 with
          | none => rw [e] at h; cases h
          | some k =>
            rw [e] at h
            unfold allO at h
            cases e2 : allO ((ds1.zip ds2).map fun p => deqN n p.1 p.2) with
            | none => rw [e2] at h; cases h
            | some c =>
              rw [e2] at h
              have h : (k && c) = b := Option.some.inj h
              rw [← h, ih a1 a2 e, ihu b1 b2 e2]
              rfl
  intro n
  induction n with
  | zero =>
    intro v d d' b r1 r2 h
    cases r1 <;> cases r2 <;> first | (simp [deqN] at h; done) | (simp [deqN] at h; first | exact h | exact h.symm)
  | succ n ih =>
    intro v d d' b r1 r2 h
    cases r1 with
    | int => cases r2; simp [deqN] at h; first | exact h | exact h.symm
    | str => cases r2; simp [deqN] at h; first | exact h | exact h.symm
    | lst h1 q1 =>
      cases r2 with
      | lst h2 q2 =>
        rw [h1] at h2; cases h2
        unfold deqN at h
        rw [if_pos (by rw [← q1.length, ← q2.length])] at h
        exact seqs n ih q1 q2 h
      | tup h2 q2 => rw [h1] at h2; cases h2
      | _ => simp [deqN] at h
    | tup h1 q1 =>
      cases r2 with
      | tup h2 q2 =>
        rw [h1] at h2; cases h2
        unfold deqN at h
        rw [if_pos (by rw [← q1.length, ← q2.length])] at h
        exact seqs n ih q1 q2 h
      | lst h2 q2 => rw [h1] at h2; cases h2
      | _ => simp [deqN] at h
    | _ => cases r2 <;> simp [deqN] at h
section
variable {X : Cx} {pins : List (Addr × Obj)} {σ : St} {H : Hp} {s : Shared}
theorem eq_ok (I : Inv X pins σ H s) : ∀ (n : Nat) (A : Around) {v v' : V} {u u' : Value} {d d' : D} {b : Bool}, A.units + n < cLine → Rep H v d → Rep H v' d' → RelV v u → RelV v' u' → deqN n d d' = some b →
    SeqAt.EqAt A s u u' b ∧ ∀ a a', v = .ref a → v' = .ref a' → SeqAt.RcAt A s u u' b := by
  intro n
  have base : ∀ {n : Nat} {A : Around} {v v' : V} {u u' : Value} {i j : Int} {b : Bool}, Rep H v (.int i) → Rep H v' (.int j) → RelV v u → RelV v' u' → deqN n (.int i) (.int j) = some b → SeqAt.EqAt A s u u' b ∧ ∀ a a', v = .ref a → v' = .ref a' → SeqAt.RcAt A s u u' b := by
    intro n A v v' u u' i j b r1 r2 e1 e2 h
    cases r1; cases r2
    obtain ⟨t, rfl⟩ := e1
    obtain ⟨t', rfl⟩ := e2
    have hb : (i == j) = b := by cases n <;> (simp [deqN] at h; rw [← h]; rfl)
    refine ⟨hb ▸ (MeetsSeq.EqGives.int i j t t').at A s, fun a a' z => nomatch z⟩
  have baseS : ∀ {n : Nat} {A : Around} {v v' : V} {u u' : Value} {i j : Str} {b : Bool}, Rep H v (.str i) → Rep H v' (.str j) → RelV v u → RelV v' u' → deqN n (.str i) (.str j) = some b → SeqAt.EqAt A s u u' b ∧ ∀ a a', v = .ref a → v' = .ref a' → SeqAt.RcAt A s u u' b := by
    intro n A v v' u u' i j b r1 r2 e1 e2 h
    cases r1; cases r2
    obtain ⟨t, rfl⟩ := e1
    obtain ⟨t', rfl⟩ := e2
    have hb : (i == j) = b := by
      have h : decide (i = j) = b := by cases n <;> (simp only [deqN] at h; exact Option.some.inj h)
      rw [← h, Bool.eq_iff_iff]; simp
    refine ⟨hb ▸ (eqGives_str i j t t').at A s, fun a a' z => nomatch z⟩
  induction n with
  | zero =>
    intro A v v' u u' d d' b hu r1 r2 e1 e2 h
    cases d with
    | int i => cases d' with | int j => exact base r1 r2 e1 e2 h | _ => simp [deqN] at h
    | str i => cases d' with | str j => exact baseS r1 r2 e1 e2 h | _ => simp [deqN] at h
    | _ => simp [deqN] at h
  | succ n ih =>
    intro A v v' u u' d d' b hu r1 r2 e1 e2 h
    have items : ∀ {us us' : List V} {its its' : List Value} {xs ys : List D} {b : Bool}, Reps H us xs → Reps H us' ys → Vals us its → Vals us' its' → xs.length = ys.length → allO ((xs.zip ys).map fun p => deqN n p.1 p.2) = some b →
        ∃ e : Nat → Bool, (∀ j (h1 : j < its.toArray.size) (h2 : j < its'.toArray.size), SeqAt.EqAt A.in1 s its.toArray[j] its'.toArray[j] (e j)) ∧ b = (List.range its.toArray.size).all e := by
      intro us us' its its' xs ys b q1 q2 w1 w2 hl h
      obtain ⟨e, he, hb⟩ := allO_mem h
      have l1 : ((xs.zip ys).map fun p => deqN n p.1 p.2).length = its.length := by rw [List.length_map, List.length_zip, ← w1.length, q1.length]; omega
      refine ⟨e, fun j h1 h2 => ?_, by rw [hb, l1]; rfl⟩
      have j1 : j < its.length := by simpa using h1
      have j2 : j < its'.length := by simpa using h2
      have := he j (by rw [l1]; exact j1)
      rw [List.getElem?_map] at this
      cases ez : (xs.zip ys)[j]? with
      | none => rw [ez] at this; cases this
      | some p =>
        rw [ez] at this
        have hd : deqN n p.1 p.2 = some (e j) := Option.some.inj this
        obtain ⟨hx, hy⟩ := List.getElem?_zip_eq_some.mp ez
        obtain ⟨v1, hv1, rp1⟩ := q1.get hx
        obtain ⟨v2, hv2, rp2⟩ := q2.get hy
        obtain ⟨u1, hu1, rl1⟩ := w1.get hv1
        obtain ⟨u2, hu2, rl2⟩ := w2.get hv2
        have g1 : its.toArray[j] = u1 := by rw [List.getElem?_eq_getElem j1] at hu1; simpa using Option.some.inj hu1
        have g2 : its'.toArray[j] = u2 := by rw [List.getElem?_eq_getElem j2] at hu2; simpa using Option.some.inj hu2
        rw [g1, g2]
        exact (ih A.in1 (show A.units + 1 + n < cLine by omega) rp1 rp2 rl1 rl2 hd).1
    have fin : ∀ {a a' : Addr} {b : Bool} {d d' : D}, Rep H (.ref a) d → Rep H (.ref a') d' → deqN (n + 1) d d' = some b → SeqAt.RcAt A s (.ref a) (.ref a') b → SeqAt.EqAt A s (.ref a) (.ref a') b := by
      intro a a' b d d' r1 r2 hd hr
      by_cases z : a = a'
      · subst z
        rw [same_deq (n + 1) r1 r2 hd]
        exact SeqAt.EqAt.same _
      · exact SeqAt.EqAt.of_refs z hr
    cases d with
    | int i => cases d' with | int j => exact base r1 r2 e1 e2 h | _ => simp [deqN] at h
    | str i => cases d' with | str j => exact baseS r1 r2 e1 e2 h | _ => simp [deqN] at h
    | lst t xs =>
      cases d' with
      | lst t' ys =>
        have hd := h
        cases r1 with
        | lst h1 q1 =>
          rename_i a1 us1
          cases r2 with
          | lst h2 q2 =>
            rename_i a2 us2
            cases e1; cases e2
            obtain ⟨its, w1, p1, _⟩ := I.list (SqL.of h1)
            obtain ⟨its', w2, p2, _⟩ := I.list (SqL.of h2)
            have rc : SeqAt.RcAt A s (.ref a1) (.ref a2) b := by
              unfold deqN at h
              by_cases hl : xs.length = ys.length
              · rw [if_pos hl] at h
                obtain ⟨e, he, hb⟩ := items q1 q2 w1 w2 hl h
                rw [hb]
                exact SeqAt.RcAt.lists p1.isList p2.isList (by simp [← w1.length, ← w2.length, q1.length, q2.length, hl]) (by omega) he
              · rw [if_neg hl] at h
                cases h
                exact SeqAt.RcAt.lists_lengths p1.isList p2.isList (by simp [← w1.length, ← w2.length, q1.length, q2.length]; exact hl) (by omega)
            exact ⟨fin (.lst h1 q1) (.lst h2 q2) hd rc, fun a a' z z' => by cases z; cases z'; exact rc⟩
      | _ => simp [deqN] at h
    | tup xs =>
      cases d' with
      | tup ys =>
        have hd := h
        cases r1 with
        | tup h1 q1 =>
          rename_i a1 us1
          cases r2 with
          | tup h2 q2 =>
            rename_i a2 us2
            cases e1; cases e2
            obtain ⟨its, w1, p1, _⟩ := I.tuple (SqT.of h1)
            obtain ⟨its', w2, p2, _⟩ := I.tuple (SqT.of h2)
            have rc : SeqAt.RcAt A s (.ref a1) (.ref a2) b := by
              unfold deqN at h
              by_cases hl : xs.length = ys.length
              · rw [if_pos hl] at h
                obtain ⟨e, he, hb⟩ := items q1 q2 w1 w2 hl h
                have lz : its.toArray.size = its'.toArray.size := by simp [← w1.length, ← w2.length, q1.length, q2.length, hl]
                have := SeqAt.RcAt.tuples (s := s) (A := A) (show s.heap.IsTuple _ its.toArray from p1) (show s.heap.IsTuple _ its'.toArray from p2) (by omega) he
                rw [← lz, Nat.min_self, beq_self_eq_true, Bool.and_true] at this
                rw [hb]
                exact this
              · rw [if_neg hl] at h; cases h
            exact ⟨fin (.tup h1 q1) (.tup h2 q2) hd rc, fun a a' z z' => by cases z; cases z'; exact rc⟩
      | _ => simp [deqN] at h
    | _ => simp [deqN] at h
end
section
variable {X : Cx}
def seqD : D → Bool
  | .lst _ _ => true
  | .tup _ => true
  | _ => false
theorem op_eqD (hu : X.A.units + 4 < cLine) : OpR X (compareOp .Eq) (fun x y H Q => ∃ d d' b a a', x = .ref a ∧ y = .ref a' ∧ Rep H x d ∧ Rep H y d' ∧ deqN 4 d d' = some b ∧ Q (.bl b) H) := by
  intro pins s σ H x y v u Q I rx ry h
  obtain ⟨d, d', b, a, a', rfl, rfl, r1, r2, hd, q⟩ := h
  have := (eq_ok I 4 X.A hu r1 r2 rx ry hd).2 a a' rfl rfl
  exact this _ _ _ _ ⟨.bl b, H, I, rfl, q⟩
def dEq : D → D → Res D := fun x y => if seqD x = true ∧ seqD y = true then (match deqN 4 x y with
  | some b => .ok (.bl b)
  | none => .bad) else dEqS false x y
theorem dEq_noX : ∀ x y, noX (dEq x y) = true := by
  intro x y
  unfold dEq
  split
  · split <;> rfl
  · exact dEqS_noX _ _ _
theorem seq_ref {H : Hp} {v : V} {d : D} (r : Rep H v d) (h : seqD d = true) : ∃ a, v = .ref a := by
  cases r <;> first | exact ⟨_, rfl⟩ | cases h
theorem fo_eq (hu : X.A.units + 4 < cLine) : FOp X (compareOp .Eq) dEq := by
  refine ⟨OpR.pre (OpR.or (op_eqD hu) (fo_eqS (X := X)).go) ?_⟩
  rintro x y H Q ⟨Hs, H0, vs, ds, d1, d2, d, S, e, k⟩
  unfold dEq at e
  split at e
  · rename_i hs
    split at e
    · rename_i b hb
      cases e
      obtain ⟨a, rfl⟩ := seq_ref S.drop.head hs.1
      obtain ⟨a', rfl⟩ := seq_ref S.head hs.2
      exact .inl ⟨d1, d2, b, a, a', rfl, rfl, S.drop.head, S.head, hb, k _ H S.drop.drop.bl⟩
    · cases e
  · exact .inr ⟨Hs, H0, vs, ds, d1, d2, d, S, e, k⟩
end
end Mi
namespace Mi
open PySem PySem.Spec L2
open PyProof.Rows hiding St
theorem Reps.drop {H : Hp} : ∀ {us : List V} {ds : List D} (k : Nat), Reps H us ds → Reps H (us.drop k) (ds.drop k)
  | _, _, 0, r => r
  | _, _, _ + 1, .nil => .nil
  | _, _, k + 1, .cons _ r => Reps.drop k r
theorem Reps.take {H : Hp} : ∀ {us : List V} {ds : List D} (k : Nat), Reps H us ds → Reps H (us.take k) (ds.take k)
  | _, _, 0, _ => .nil
  | _, _, _ + 1, .nil => .nil
  | _, _, k + 1, .cons h r => .cons h (Reps.take k r)
def TOF (H0 : Hp) (Ex : Value → Prop) (f : FEnv → Res (Option Int)) : St → Hp → (Option Int → Hp → Prop) → Prop := fun σ H Q => ∃ Hs ρ ts, SX Hs H0 H ts σ ρ ∧
  Post Ex (f ρ) fun o => ∀ H', SX Hs H0 H' ts σ ρ → Q o H'
structure FO (X : Cx) (H0 : Hp) (Ex : Value → Prop) (e : Option Expr) (f : FEnv → Res (Option Int)) : Prop where
  go : PO X e (TOF H0 Ex f)
section
variable {X : Cx} {Ex : Value → Prop} {H0 : Hp} {e : Expr} {lo hi : Option Expr} {f : FEnv → Res D} {fl fh : FEnv → Res (Option Int)} {pos p2 : Pos}
def foN : FEnv → Res (Option Int) := fun _ => .ok none
def foS (f : FEnv → Res D) : FEnv → Res (Option Int) := fun ρ => f ρ >>= fun d => match d with
  | .int i => .ok (some i)
  | _ => .bad
theorem fo_none : FO X H0 Ex none foN := by
  refine ⟨?_⟩
  intro pins s σ H Q I h
  obtain ⟨Hs, ρ, ts, S, p⟩ := h
  exact po_none pins s σ H Q I (p H S)
theorem fo_some (h : FE X H0 Ex e f) : FO X H0 Ex (some e) (foS f) := by
  refine ⟨?_⟩
  intro pins s σ H Q I q
  obtain ⟨Hs, ρ, ts, S, p⟩ := q
  refine po_some h.go pins s σ H Q I ⟨Hs, ρ, ts, S, (Post.bind p).imp fun d _ p1 v H1 S1 => ?_⟩
  cases d with
  | int i => exact ⟨i, SR.isInt S1, p1 H1 S1.drop⟩
  | _ => exact p1.elim
def cutS (x : Str) (l h : Option Int) : Str := if (Builtin.Str.strSliceIndices l h 1 x.length).length = x.length then x else ⟨((Builtin.Str.strSliceIndices l h 1 x.length).filterMap (x.cps[·]?)).toArray⟩
theorem sl_str : SlR X (fun x l h H Q => ∃ z, x = .str z ∧ (cutS z l h).length ≤ sizeLine ∧ Q (.str (cutS z l h)) H) := by
  intro pins s σ H x v vl vu l h sl Q I rx hs pl pu q
  obtain ⟨z, rfl, hz, q⟩ := q
  obtain ⟨t, rfl⟩ := rx
  refine ⟨"str", _, PySem.F.slot_str_getitem.lookup, typeIs_str s z t, ?_⟩
  obtain ⟨l', rfl, el⟩ : ∃ l' : Option (Int × Tok), vl = partValue l' ∧ l = l'.map (·.1) := by
    cases pl with
    | none => exact ⟨none, rfl, rfl⟩
    | int i t => exact ⟨some (i, t), rfl, rfl⟩
  obtain ⟨u', rfl, eu⟩ : ∃ u' : Option (Int × Tok), vu = partValue u' ∧ h = u'.map (·.1) := by
    cases pu with
    | none => exact ⟨none, rfl, rfl⟩
    | int i t => exact ⟨some (i, t), rfl, rfl⟩
  refine wpAny_getItem_str_slice (l := l') (u := u') (st := none) hs rfl ?_
  unfold sliceMade
  have hp : slicePicked z l' u' none = Builtin.Str.strSliceIndices l h 1 z.length := by rw [el, eu]; rfl
  rw [hp]
  by_cases hc : (Builtin.Str.strSliceIndices l h 1 z.length).length = z.length
  · rw [if_pos (by simp [hc])]
    have : cutS z l h = z := by unfold cutS; rw [if_pos hc]
    rw [this] at q
    exact ⟨.str z, H, I, ⟨t, rfl⟩, q⟩
  · rw [if_neg (by simp [hc])]
    have : cutS z l h = ⟨((Builtin.Str.strSliceIndices l h 1 z.length).filterMap (z.cps[·]?)).toArray⟩ := by unfold cutS; rw [if_neg hc]
    rw [this] at q hz
    exact ⟨hz, .str _, H, I.tok _, ⟨_, rfl⟩, q⟩
def cutD (xs : List D) (l h : Option Int) : List D := (xs.drop (HT.sIx xs.length 0 l)).take (HT.sIx xs.length xs.length h - HT.sIx xs.length 0 l)
theorem Reps.cut {H : Hp} {us : List V} {ds : List D} (r : Reps H us ds) (l h : Option Int) : Reps H (cutV us l h) (cutD ds l h) := by
  unfold cutV cutD
  rw [r.length]
  exact (r.drop _).take _
def dSl (d : D) (l h : Option Int) : Res D := match d with
  | .str z => if (cutS z l h).length ≤ sizeLine then .ok (.str (cutS z l h)) else .bad
  | .lst t xs => match D.its (.lst t xs) with
    | some ys => .ok (.lst .o (cutD ys l h))
    | none => .bad
  | _ => .bad
def fSl (f : FEnv → Res D) (fl fh : FEnv → Res (Option Int)) : FEnv → Res D := fun ρ => f ρ >>= fun d => fl ρ >>= fun l => fh ρ >>= fun h => dSl d l h
theorem fe_slice (he : FE X H0 Ex e f) (hl : FO X H0 Ex lo fl) (hh : FO X H0 Ex hi fh) : FE X H0 Ex (.Subscript e (.Slice lo hi none p2) pos) (fSl f fl fh) := by
  refine ⟨PE.pre (pe_slice (SlR.or sl_str sl_list) he.go hl.go hh.go) ?_⟩
  rintro σ H Q ⟨Hs, ρ, ts, S, p⟩
  refine ⟨Hs, ρ, ts, S, (Post.bind p).imp fun d _ p1 v H1 S1 => ⟨Hs, ρ, (v, d) :: ts, S1, (Post.bind p1).imp fun l _ p2 H2 S2 => ⟨Hs, ρ, (v, d) :: ts, S2, (Post.bind p2).imp fun h _ p3 H3 S3 => ?_⟩⟩⟩
  have S3 : SR Hs H0 H3 (some v :: (tvs ts ++ σ)) (some d :: (tds ts ++ ρ)) := S3
  cases d with
  | str z =>
    cases SR.isStr S3
    have p3 : Post Ex (if (cutS z l h).length ≤ sizeLine then .ok (.str (cutS z l h)) else .bad) fun d => ∀ v H', SX Hs H0 H' ((v, d) :: ts) σ ρ → Q v H' := p3
    split at p3
    · rename_i hz
      exact .inl ⟨z, rfl, hz, p3 _ H3 S3.drop.str⟩
    · exact p3.elim
  | lst t xs =>
    have p3 : Post Ex (match D.its (.lst t xs) with
      | some ys => .ok (.lst .o (cutD ys l h))
      | none => .bad) fun d => ∀ v H', SX Hs H0 H' ((v, d) :: ts) σ ρ → Q v H' := p3
    cases ei : D.its (.lst t xs) with
    | none => rw [ei] at p3; exact p3.elim
    | some ys =>
      rw [ei] at p3
      obtain ⟨a, us, rfl, ha, Hf, fp, O, F, R⟩ := S3.items ei
      refine .inr ⟨a, us, rfl, SqL.of ha, fun q hq => p3 _ _ (SR.laidL O F (R.cut l h) (fun e m => D.its_tag ei e ?_) hq)⟩
      unfold cutD at m
      exact List.mem_of_mem_drop (List.mem_of_mem_take m)
  | _ => exact p3.elim
end
end Mi
namespace Mi
open PySem PySem.Spec L2
open PyProof.Rows hiding St
section
variable {X : Cx} {Ex : Value → Prop} {H0 : Hp} {k : Expr} {fk : FEnv → Res D} {pos : Pos}
def blsOf : List D → Option (List Bool)
  | [] => some []
  | .bl b :: r => (blsOf r).map (b :: ·)
  | _ => none
theorem blsOf_rep {H : Hp} : ∀ {us : List V} {xs : List D} {bs : List Bool}, Reps H us xs → blsOf xs = some bs → us = bs.map V.bl
  | _, _, _, .nil, h => by simp [blsOf] at h; subst h; rfl
  | _, _, bs, .cons (d := d) a r, h => by
    cases d with
    | bl b =>
      cases a
      unfold blsOf at h
      cases e : blsOf _ with
      | none => rw [e] at h; cases h
      | some cs => rw [e] at h; cases h; rw [blsOf_rep r e]; rfl
    | _ => cases h
theorem call_allB (hc : X.calm = true) : CallR X (.builtin "all") (fun us H Q => ∃ (a : Addr) (bs : List Bool), us = [.ref a] ∧ SqL X.K H a (bs.map V.bl) ∧ Q (.bl (bs.all id)) H) := by
  intro pins s σ H xs us Q I r h
  obtain ⟨a, bs, rfl, hq, q⟩ := h
  cases r with
  | cons r1 r2 =>
    cases r2
    cases r1
    obtain ⟨its, w, pl, hz⟩ := I.list hq
    have hl := w.length
    have hlt : a < s.heap.objs.size := by obtain ⟨_, e, _⟩ := pl.isList; exact Heap.lt_size e
    refine call_all_walk (wpAny_pyIter_list pl.isList ?_)
    refine ⟨s.heap.objs.size, [s.heap.objs.size, a], [s.heap.objs.size], its.toArray.size, _, _, fun i => (bs[i]?).getD true, rfl, Walks.list (A := X.A.in1) (I.ok.hd hc) _ a (Nat.ne_of_lt hlt) its.toArray,
      ⟨⟨_, Heap.get?_push_size _ rfl, rfl, rfl⟩, pl.isList.push _⟩, fun i v s' Q' E' hP hQ => ?_, fun h' tk hk => ?_⟩
    · have hP : its[i]? = some v := by simpa using hP
      obtain ⟨hi, hv⟩ := List.getElem?_eq_some_iff.mp hP
      have hb : i < bs.length := by rw [List.length_map] at hl; omega
      obtain ⟨u', hu', ru'⟩ := w.get (i := i) (x := .bl bs[i]) (by rw [List.getElem?_map, List.getElem?_eq_getElem hb]; rfl)
      rw [hP] at hu'
      cases hu'
      cases ru'
      have hQ : Q' ((bs[i]?).getD true) s' := hQ
      rw [List.getElem?_eq_getElem hb] at hQ
      exact wpAny_truthy_bool hQ
    · have e : ((List.range its.toArray.size).all fun i => (bs[i]?).getD true) = bs.all id := by
        have hsz : its.toArray.size = bs.length := by rw [List.size_toArray, ← hl, List.length_map]
        rw [hsz, Bool.eq_iff_iff, List.all_eq_true, List.all_eq_true]
        constructor
        · intro h b hb
          obtain ⟨i, hi, rfl⟩ := List.getElem_of_mem hb
          have := h i (List.mem_range.mpr hi)
          rw [List.getElem?_eq_getElem hi] at this
          exact this
        · intro h i hi
          have hi := List.mem_range.mp hi
          rw [List.getElem?_eq_getElem hi]
          exact h _ (List.getElem_mem hi)
      rw [e]
      refine ⟨.bl _, H, I.kept (t' := tk) (h' := h') fun b o e => ?_, rfl, q⟩
      exact hk b o (fun hm => by rw [List.mem_singleton.mp hm] at e; exact Nat.lt_irrefl _ (Heap.lt_size e)) (Heap.get?_push_of_some _ e)
def cAll : List D → Res D
  | [.lst _ xs] => match blsOf xs with
    | some bs => .ok (.bl (bs.all id))
    | none => .bad
  | _ => .bad
theorem cAll_noX : ∀ es, noX (cAll es) = true := by
  intro es
  unfold cAll
  split
  · split <;> rfl
  · rfl
theorem fc_all (hc : X.calm = true) : FCall X (.builtin "all") cAll := by
  refine ⟨CallR.pre (call_allB hc) ?_⟩
  rintro us H Q ⟨Hs, H0, vs, ds, es, d, hl, S, e, kq⟩
  unfold cAll at e
  split at e
  · rename_i t xs
    split at e
    · rename_i bs hb
      cases e
      obtain ⟨u, rfl⟩ := one_of hl rfl
      have S' : SR Hs H0 H (some u :: vs) (some (.lst t xs) :: ds) := S
      have hh := S'.head
      cases hh with
      | lst q R =>
        refine ⟨_, bs, rfl, ?_, kq _ H S'.drop.bl⟩
        rw [← blsOf_rep R hb]
        exact SqL.of q
    · cases e
  · cases e
def gAppPop (i j : Nat) (fk : FEnv → Res D) : FEnv → FOut := fun ρ => match ρ[i]?, ρ[j]? with
  | some (some (.lst .o xs)), some (some (.lst .o ys)) => aft (fk ρ) fun d => match d with
    | .int m => match seqIndex? m ys.length with
      | some q => match ys[q]? with
        | some y => if y.tag = .b ∨ sizeLine ≤ xs.length ∨ i = j ∨ m < -(2 ^ 63) ∨ 2 ^ 63 ≤ m then .bad else .nx ((ρ.set j (some (.lst .o (ys.eraseIdx q)))).set i (some (.lst .o (xs ++ [y]))))
        | none => .bad
      | none => .bad
    | _ => .bad
  | _, _ => .bad
theorem fs_appPop {i j : Nat} {x y : Str} {p1 p2 p3 q1 q2 q3 : Pos} (hv : PV X (.Name x p1) i) (hw : PV X (.Name y q1) j) (hk : FE X H0 Ex k fk)
    (hbase : attributeBase (.Name x p1) "append" X.env (eval (.Name x p1) X.env) = eval (.Name x p1) X.env := by rfl)
    (hbase2 : attributeBase (.Name y q1) "pop" X.env (eval (.Name y q1) X.env) = eval (.Name y q1) X.env := by rfl)
    (hfew : ((backTo p3 (starEach [.Call (.Attribute (.Name y q1) "pop" q2) [k] [] q3] X.env)).all (fun x => !x.1) && (backToKw p3 (keywordEach [] X.env)).all (fun x => x.1.isSome) && decide (([.Call (.Attribute (.Name y q1) "pop" q2) [k] [] q3] : List Expr).length + ([] : List Keyword).length + (if ([] : List Keyword).isEmpty then 0 else 1) < 30)) = true := by rfl)
    (hfew2 : ((backTo q3 (starEach [k] X.env)).all (fun x => !x.1) && (backToKw q3 (keywordEach [] X.env)).all (fun x => x.1.isSome) && decide (([k] : List Expr).length + ([] : List Keyword).length + (if ([] : List Keyword).isEmpty then 0 else 1) < 30)) = true := by rfl)
    (hline : (p2.endLine == p3.line) = true := by rfl) (hline2 : (q2.endLine == q3.line) = true := by rfl) (hplain : (backTo p3 (starEach [] X.env)).any (·.1) = false := by rfl) (hplain2 : (backTo q3 (starEach [] X.env)).any (·.1) = false := by rfl)
    (hs1 : starEach [.Call (.Attribute (.Name y q1) "pop" q2) [k] [] q3] X.env = (false, eval (.Call (.Attribute (.Name y q1) "pop" q2) [k] [] q3) X.env) :: starEach [] X.env := by rfl) (hs2 : starEach [k] X.env = (false, eval k X.env) :: starEach [] X.env := by rfl)
    (hsw : swapsWith (.Call (.Attribute (.Name x p1) "append" p2) [.Call (.Attribute (.Name y q1) "pop" q2) [k] [] q3] [] p3) none pos.line X.env = pure false := by rfl) :
    FS X H0 Ex (.Expr (.Call (.Attribute (.Name x p1) "append" p2) [.Call (.Attribute (.Name y q1) "pop" q2) [k] [] q3] [] p3) pos) (gAppPop i j fk) := by
  refine ⟨PS.pre (ps_expr (pe_bm PySem.F.plainAttrs_list PySem.F.slot_list_append PySem.F.type_list_append mt_append hv.go
    (pa_cons (pe_bm PySem.F.plainAttrs_list PySem.F.slot_list_pop PySem.F.type_list_pop mt_popAt hw.go (pa_cons hk.go pa_nil hs2) hbase2 hfew2 hline2 hs2 hplain2) pa_nil hs1) hbase hfew hline hs1 hplain) hsw) ?_⟩
  rintro En σ H ⟨Hs, ρ, ⟨S, n⟩, p⟩
  unfold gAppPop at p
  split at p
  · rename_i xs ys hx hy
    obtain ⟨q, us, hq, hH, hl⟩ := S.recv hx
    obtain ⟨q', us', hq', hH', hl'⟩ := S.recv hy
    refine ⟨.ref q, hq, .inl ⟨rfl, us, SqL.of hH⟩, .ref q', hq', .inl ⟨rfl, us', SqL.of hH'⟩, Hs, ρ, [], S, (PostS.aft p).imp fun d _ p1 v H1 S1 => ?_⟩
    cases d with
    | int m =>
      have S1 : SR Hs H0 H1 (some v :: σ) (some (.int m) :: ρ) := S1
      cases SR.isInt S1
      have p1 : PostS Hs H0 Ex En (match seqIndex? m ys.length with
        | some q => match ys[q]? with
          | some y => if y.tag = .b ∨ sizeLine ≤ xs.length ∨ i = j ∨ m < -(2 ^ 63) ∨ 2 ^ 63 ≤ m then .bad else .nx ((ρ.set j (some (.lst .o (ys.eraseIdx q)))).set i (some (.lst .o (xs ++ [y]))))
          | none => .bad
        | none => .bad) := p1
      cases e1 : seqIndex? m ys.length with
      | none => rw [e1] at p1; exact p1.elim
      | some c =>
        rw [e1] at p1
        dsimp only at p1
        cases e2 : ys[c]? with
        | none => rw [e2] at p1; exact p1.elim
        | some z =>
          rw [e2] at p1
          dsimp only at p1
          split at p1
          · exact p1.elim
          · rename_i hc
            have hz : z.tag ≠ .b := fun w => hc (.inl w)
            have hij : i ≠ j := fun w => hc (.inr (.inr (.inl w)))
            obtain ⟨a, vs, u, ha, hHa, hla, hu, S2⟩ := S1.drop.popAt n hy e2 hz
            rw [hq'] at ha
            cases ha
            have n2 : noB (ρ.set j (some (.lst .o (ys.eraseIdx c)))) := n.set fun d' w => by cases w; exact fun y => nomatch y
            obtain ⟨b, ws, hb, hHb, hlb, S3⟩ := S2.append hz n2 (i := i) (xs := xs) (by rw [List.getElem?_set_ne (Ne.symm hij)]; exact hx)
            rw [hq] at hb
            cases hb
            refine ⟨q', vs, m, c, u, rfl, rfl, hHa, ?_, ?_, by rw [hla]; exact e1, hu, q, ws, u, rfl, rfl, hHb, ?_, p1 σ _ ⟨S3, n2.set fun d' w => by cases w; exact fun y => nomatch y⟩⟩
            · exact Int.not_lt.mp fun w => hc (.inr (.inr (.inr (.inl w))))
            · exact Int.not_le.mp fun w => hc (.inr (.inr (.inr (.inr w))))
            · rw [hlb]
              exact Nat.lt_of_not_le fun w => hc (.inr (.inl w))
    | _ => exact p1.elim
  · exact p.elim
end
end Mi
namespace Mi
open PySem PySem.Spec L2
open PyProof.Rows hiding St
section
variable {prog : Program} {w : World} {A : Around} {E : Value → Shared → Prop} {s : Shared}
structure ZAp (zp tI tO j1 j2 : Addr) (f1 f2 : List Addr) : Prop where
  a1 : tO ≠ zp
  a2 : j1 ≠ zp
  a3 : j2 ≠ zp
  a4 : tO ≠ j1
  a5 : tO ≠ j2
  a6 : j1 ≠ j2
  b1 : ∀ b ∈ f1, b ≠ zp ∧ b ≠ tO ∧ b ≠ j2
  b2 : ∀ b ∈ f2, b ≠ zp ∧ b ≠ tO ∧ b ≠ j1
  c1 : tI ≠ zp
  c2 : tI ≠ tO
  c3 : tI ≠ j1
  c4 : tI ≠ j2
variable {zp tI tO j1 j2 : Addr} {f1 f2 : List Addr} {n1 n2 k : Nat} {P1 P2 : Nat → Value → Prop} {S1 S2 : Nat → Heap → Prop} {a b : Value}
end
end Mi
namespace Mi
open PySem PySem.Spec L2
open PyProof.Rows hiding St
section
variable {prog : Program} {w : World} {A : Around} {E : Value → Shared → Prop} {s : Shared}
variable {zp tI tO j1 j2 : Addr} {f1 f2 : List Addr} {n1 n2 k : Nat} {P1 P2 : Nat → Value → Prop} {S1 S2 : Nat → Heap → Prop} {a b : Value}
end
end Mi
namespace Mi
open PySem PySem.Spec L2
open PyProof.Rows hiding St
end Mi
namespace Mi
open PySem PySem.Spec L2
open PyProof.Rows hiding St
section
variable {X : Cx} {Ex : Value → Prop} {H0 : Hp} {a b : Expr} {elts : List Expr} {x1 : Nat} {p pos pos' : Pos} {ta : TA} {fa : FEnv → Res (List D)}
end
end Mi
namespace Mi
open PySem PySem.Spec L2
open PyProof.Rows hiding St
section
variable {X : Cx} {Ex : Value → Prop} {H0 : Hp} {e : Expr} {pos : Pos}
def fCallQ (n : Nat) (F : List D → Res D) (fa : FEnv → Res (List D)) : FEnv → Res D := fun ρ => fa ρ >>= fun ds => if ds.length = n then (match callF F ds with
  | .ok d => .ok d
  | _ => .bad) else .bad
theorem callQ_pre {n : Nat} {F : List D → Res D} {fa : FEnv → Res (List D)} {σ : St} {H : Hp} {Q : VK} (h : TEF H0 Ex (fCallQ n F fa) σ H Q) : tCall (spF n F) [] (fun _ _ _ => False) (TAF H0 Ex fa) σ H Q := by
  obtain ⟨Hs, ρ, ts, S, p⟩ := h
  refine ⟨Hs, ρ, ts, S, (Post.bind p).imp fun ds _ p1 us H1 hl S1 => ?_⟩
  split at p1
  · rename_i hds
    rw [List.append_nil]
    cases ec : callF F ds with
    | bad => rw [ec] at p1; exact p1.elim
    | exc C => rw [ec] at p1; exact p1.elim
    | ok d =>
      rw [ec] at p1
      obtain ⟨Hs', es', a1, a2, a3, a4, a5⟩ := callF_ok (Ex := fun _ => False) (F := F) (n := n) hds hl S1 (by rw [ec]; exact p1)
      refine ⟨Hs', es', a1, a2, a3, a4, ?_⟩
      cases ef : F es' with
      | ok d => rw [ef] at a5; exact a5
      | exc C => rw [ef] at a5; exact fun H' sm => (a5 H' sm).1
      | bad => rw [ef] at a5; exact a5.elim
  · exact p1.elim
theorem fe_callQ {x : Str} {n k : Nat} {F : List D → Res D} {p : Pos} {es : List Expr} {fa : FEnv → Res (List D)} (c : Cal X.prog X.w X.K X.mg X.base x n F k) (hr : Room k X.A) (hg : Gl X x) (ha : FA X H0 Ex (e :: es) fa) (hn : (e :: es).length = n := by rfl)
    (hdb : (x == ("__debug__" : Str)) = false := by decide) (he : starEach (e :: es) X.env = (false, eval e X.env) :: starEach es X.env := by rfl) (hpl : (backTo pos (starEach es X.env)).any (·.1) = false := by rfl) :
    FE X H0 Ex (.Call (.Name x p) (e :: es) [] pos) (fCallQ n F fa) := by
  obtain ⟨f, fd, ps, G, hm, hk, hb⟩ := c.ex
  exact ⟨PE.pre (pe_call (dvs := []) (E := fun _ _ _ => False) G hr hg hm hk hb .nil pass_no ha.go hdb he hpl) fun σ H Q h => callQ_pre h⟩
theorem hu4 {k : Nat} {A : Around} (r : Room k A) : A.units + 4 < cLine := by have := r.un; omega
end
end Mi
namespace Mi
open PySem PySem.Spec L2
open PyProof.Rows hiding St
def noList (K : PySem.W.Frag) : Bool := K.all fun p => !(p.2.cls == .type "list")
theorem noList_of {K : PySem.W.Frag} (h : noList K = true) {a : Addr} {o : Obj} (e : K.lookup a = some o) : o.cls ≠ .type "list" := by
  unfold noList at h
  induction K with
  | nil => simp at e
  | cons p r ih =>
    obtain ⟨b, q⟩ := p
    rw [List.lookup_cons] at e
    rw [List.all_cons, Bool.and_eq_true] at h
    cases hb : a == b with
    | true =>
      rw [hb] at e
      have e : q = o := Option.some.inj e
      subst e
      intro z
      have := h.1
      rw [show (q.cls == Value.type "list") = true by rw [z]; simp] at this
      cases this
    | false => rw [hb] at e; exact ih h.2 e
theorem walkM {l : PySem.W.OpenLaw} {n k : Nat} {q : Program} {loose : List Str} {XP : (Str → Option Value) → Heap → Prop} {YP : World → Heap → Prop} {d : DefRec} {K : Params → PySem.W.Frag} {x : Str}
    (hn : l.most = some n) (hn2 : n ≤ sizeLine) (hdf : d.params.defaults = []) (hr : Room k callerA) (hY : ∀ (w : World) (h : Heap), YP w h → (K w.params).In h)
    (F : ∀ (w : World) (mg : Str → Option Value) (fa : Addr) (h : Heap), (K w.params).In h → h.Ns mainGlobals mg → mg d.name = some (.ref fa) →
      ∃ Fl : List D → Res D, (∀ ns : List Int, ns.length ≤ n → Fl [.scr ns] = .ok (.bl true)) ∧ noList (K w.params) = true ∧ ∃ fd : FuncData, (∀ (s : Shared) (u : Value), BindsTo s fd ⟨[u], []⟩ [(x, u)]) ∧
        ∀ base : Heap, (K w.params).In base → base.Ns mainGlobals mg → FnOk l.prog w (K w.params) mg base (CXm l.prog w) k fa fd [x] (spF 1 Fl)) :
    PySem.W.WalkO q loose XP YP l.row.toRowW d [] (fun f vs => PySem.call f vs) := by
  refine Att.attach_call hn hdf fun w s₀ s₁ mg mb fa o pm cd doc a vs ns G Y ho hd hcd hmg hobj hints hlen hg => ?_
  have KX := hY w _ Y
  obtain ⟨Fl, hFl, hnl, fd, hb, hF⟩ := F w mg fa _ KX G.T.g hmg
  refine law_call KX G.T.g G.T.b G.T.builtins G.T.nolimit hg hobj hints (Nat.le_trans hlen hn2) hr hF hb (fun H hO hS => ?_) fun H e s' h => ?_
  · have hH : ∃ o, H a = some (.frz o (.lst (ns.map V.int))) := by
      rcases hS with (z | z) | ⟨o, its, m, z, zc, _⟩
      · rcases hO a with y | ⟨o, xs, y⟩
        · rw [y] at z; cases z
        · rw [y] at z; cases z
      · exact z
      · exact absurd zc (noList_of hnl z)
    obtain ⟨o, hH⟩ := hH
    refine ⟨H, [.scr ns], rfl, Same.refl _, .cons (.scr hH) .nil, fun d m => by simp at m; subst m; rfl, ?_⟩
    rw [hFl ns hlen]
    exact fun v H' S' => SR.isBl S'
  · obtain ⟨_, _, _, _, _, _, _, _, _, z⟩ := h
    exact z
theorem df_of {K : PySem.W.Frag} {h : Heap} {mg : Str → Option Value} {x : Str} {st : Stmt} {ps : List Str} {f : Addr} {oc : Value} {od an : Option Addr} {osl : Array (Option Value)} {kV doc pm cdv ct : Value} (X : K.In h) (G : h.Ns mainGlobals mg)
    (a : PySem.W.nsIn K mainGlobals x = some (some (.ref f))) (l : K.lookup f = some ⟨oc, od, .func (PySem.W.fnOf x x (defArgs st) (defBody st) (defScope st) .none kV doc pm an cdv ct), osl⟩) (c : PySem.W.codeIn K cdv x = true) (kp : PySem.W.keepIn K (.ref f) = true)
    (hb : ∀ (kV doc pm : Value) (an : Option Addr) (cdv ct : Value) (us : List Value), us.length = ps.length → bindArgs (PySem.W.fnOf x x (defArgs st) (defBody st) (defScope st) .none kV doc pm an cdv ct) ⟨us, []⟩ = pure (ps.zip us)) : Df K mg x st ps :=
  ⟨⟨f, _, fun_mk l c kp, PySem.W.mg_of X G a, (fun_mk (st := st) l c kp).binds hb⟩⟩
theorem xcls_top {K : PySem.W.Frag} {h : Heap} {mg : Str → Option Value} {x : Str} {C : Addr} (X : K.In h) (G : h.Ns mainGlobals mg) (a : PySem.W.nsIn K mainGlobals x = some (some (.ref C))) (e : PySem.W.excIn K C veMro "ValueError.__new__" = true) : XCls K mg x C := xcls_of (PySem.W.mg_of X G a) e
end Mi
namespace Mi
open PySem PySem.Spec L2
open PyProof.Rows hiding St
theorem dfx_fn {P : Program} {w : World} {K : PySem.W.Frag} {mg : Str → Option Value} {base : Heap} {N : List Str} {x : Str} {st : Stmt} {ps : List Str} {k : Nat} {g : FEnv → FOut} {f : Addr} {fd : FuncData} (U : Fun K x x st f fd) (S : FnScope N ps (defScope st))
    (hbody : ∀ (f : Addr) (cdv : Value) (A : Around) (outer : List Env) (s : Shared) (H : Hp) (E : XK) (Ex : Value → Prop), (∀ C H', Ex C → Same H H' → E C none H') → Room k (A.deeper (envOfC x (defScope st) s.heap.objs.size f cdv)) →
      FSs (cxm P w K mg base N x (defScope st) f cdv A outer s H E) H Ex (defBody st) g) : FnOk P w K mg base (CXm P w) (k + 1) f fd ps (spF ps.length (bodyF N.length g)) :=
  fn_body U S fun cdv A outer s H E ds hr hl hx => ⟨g, hbody f cdv A outer s H E _ (fun C H' e sm => hx C e H' sm) hr, rfl⟩
theorem kt7 {K : PySem.W.Frag} {T : String} (h1 : PySem.W.kitOne K (.type "NoneType") (.type T) = some (isSub "NoneType" T)) (h2 : PySem.W.kitOne K (.type "bool") (.type T) = some (isSub "bool" T)) (h3 : PySem.W.kitOne K (.type "int") (.type T) = some (isSub "int" T)) (h4 : PySem.W.kitOne K (.type "str") (.type T) = some (isSub "str" T))
    (h5 : PySem.W.kitOne K (.type "list") (.type T) = some (isSub "list" T)) (h6 : PySem.W.kitOne K (.type "tuple") (.type T) = some (isSub "tuple" T)) (h7 : PySem.W.kitOne K (.type "dict") (.type T) = some (isSub "dict" T)) : KT K T := fun t ht => by
  simp only [List.mem_cons, List.not_mem_nil, or_false] at ht
  rcases ht with rfl | rfl | rfl | rfl | rfl | rfl | rfl <;> assumption
end Mi
namespace Mi
open PySem PySem.Spec L2
open PyProof.Rows hiding St
def dNe : D → D → Res D := fun x y => if seqD x = true ∧ seqD y = true then (match deqN 4 x y with
  | some b => .ok (.bl (!b))
  | none => .bad) else dEqS true x y
end Mi
namespace Mi
open PySem PySem.Spec L2
open PyProof.Rows hiding St
section
variable {X : Cx} {Ex : Value → Prop} {H0 : Hp} {a b : Expr} {elts : List Expr} {x1 : Nat} {p pos pos' : Pos} {ta : TA} {fa : FEnv → Res (List D)}
end
end Mi
namespace Mi
open PySem PySem.Spec L2
open PyProof.Rows hiding St
section
variable {prog : Program} {w : World} {A : Around} {E : Value → Shared → Prop} {s : Shared} {a₀ : Array Keyed} {κ : KeyKind}
end
section
variable {X : Cx}
end
end Mi
namespace Mi
open PySem PySem.Spec L2
open PyProof.Rows hiding St
section
variable {X : Cx} {pins : List (Addr × Obj)} {σ : St} {H : Hp} {s : Shared}
theorem ne_ok (I : Inv X pins σ H s) (n : Nat) {a a' : Addr} {d d' : D} {b : Bool} (hu : X.A.units + (n + 1) < cLine) (r1 : Rep H (.ref a) d) (r2 : Rep H (.ref a') d') (h : deqN (n + 1) d d' = some b) : SeqAt.RcNeAt X.A s (.ref a) (.ref a') (!b) := by
  have items : ∀ {us us' : List V} {its its' : List Value} {xs ys : List D} {b : Bool}, Reps H us xs → Reps H us' ys → Vals us its → Vals us' its' → xs.length = ys.length → allO ((xs.zip ys).map fun p => deqN n p.1 p.2) = some b →
      ∃ e : Nat → Bool, (∀ j (h1 : j < its.toArray.size) (h2 : j < its'.toArray.size), SeqAt.EqAt X.A.in1 s its.toArray[j] its'.toArray[j] (e j)) ∧ b = (List.range its.toArray.size).all e := by
    intro us us' its its' xs ys b q1 q2 w1 w2 hl h
    obtain ⟨e, he, hb⟩ := allO_mem h
    have l1 : ((xs.zip ys).map fun p => deqN n p.1 p.2).length = its.length := by rw [List.length_map, List.length_zip, ← w1.length, q1.length]; omega
    refine ⟨e, fun j h1 h2 => ?_, by rw [hb, l1]; rfl⟩
    have j1 : j < its.length := by simpa using h1
    have j2 : j < its'.length := by simpa using h2
    have := he j (by rw [l1]; exact j1)
    rw [List.getElem?_map] at this
    cases ez : (xs.zip ys)[j]? with
    | none => rw [ez] at this; cases this
    | some p =>
      rw [ez] at this
      have hd : deqN n p.1 p.2 = some (e j) := Option.some.inj this
      obtain ⟨hx, hy⟩ := List.getElem?_zip_eq_some.mp ez
      obtain ⟨v1, hv1, rp1⟩ := q1.get hx
      obtain ⟨v2, hv2, rp2⟩ := q2.get hy
      obtain ⟨u1, hu1, rl1⟩ := w1.get hv1
      obtain ⟨u2, hu2, rl2⟩ := w2.get hv2
      have g1 : its.toArray[j] = u1 := by rw [List.getElem?_eq_getElem j1] at hu1; simpa using Option.some.inj hu1
      have g2 : its'.toArray[j] = u2 := by rw [List.getElem?_eq_getElem j2] at hu2; simpa using Option.some.inj hu2
      rw [g1, g2]
      exact (eq_ok I n X.A.in1 (show X.A.units + 1 + n < cLine by omega) rp1 rp2 rl1 rl2 hd).1
  cases d with
  | lst t xs =>
    cases d' with
    | lst t' ys =>
      cases r1 with
      | lst h1 q1 =>
        cases r2 with
        | lst h2 q2 =>
          obtain ⟨its, w1, p1, _⟩ := I.list (SqL.of h1)
          obtain ⟨its', w2, p2, _⟩ := I.list (SqL.of h2)
          unfold deqN at h
          by_cases hl : xs.length = ys.length
          · rw [if_pos hl] at h
            obtain ⟨e, he, hb⟩ := items q1 q2 w1 w2 hl h
            rw [hb]
            exact SeqAt.RcNeAt.lists p1.isList p2.isList (by simp [← w1.length, ← w2.length, q1.length, q2.length, hl]) (by omega) he
          · rw [if_neg hl] at h
            cases h
            exact SeqAt.RcNeAt.lists_lengths p1.isList p2.isList (by simp [← w1.length, ← w2.length, q1.length, q2.length]; exact hl) (by omega)
    | _ => simp [deqN] at h
  | tup xs =>
    cases d' with
    | tup ys =>
      cases r1 with
      | tup h1 q1 =>
        cases r2 with
        | tup h2 q2 =>
          obtain ⟨its, w1, p1, _⟩ := I.tuple (SqT.of h1)
          obtain ⟨its', w2, p2, _⟩ := I.tuple (SqT.of h2)
          unfold deqN at h
          by_cases hl : xs.length = ys.length
          · rw [if_pos hl] at h
            obtain ⟨e, he, hb⟩ := items q1 q2 w1 w2 hl h
            have lz : its.toArray.size = its'.toArray.size := by simp [← w1.length, ← w2.length, q1.length, q2.length, hl]
            have := SeqAt.RcNeAt.tuples (s := s) (A := X.A) (show s.heap.IsTuple _ its.toArray from p1) (show s.heap.IsTuple _ its'.toArray from p2) (by omega) he
            rw [← lz, Nat.min_self, beq_self_eq_true, Bool.and_true] at this
            rw [hb]
            exact this
          · rw [if_neg hl] at h; cases h
    | _ => simp [deqN] at h
  | int i => cases r1
  | str i => cases r1
  | _ => cases r2 <;> simp [deqN] at h
end
section
variable {X : Cx}
theorem op_neD (hu : X.A.units + 4 < cLine) : OpR X (compareOp .NotEq) (fun x y H Q => ∃ d d' b a a', x = .ref a ∧ y = .ref a' ∧ Rep H x d ∧ Rep H y d' ∧ deqN 4 d d' = some b ∧ Q (.bl (!b)) H) := by
  intro pins s σ H x y v u Q I rx ry h
  obtain ⟨d, d', b, a, a', rfl, rfl, r1, r2, hd, q⟩ := h
  cases rx; cases ry
  exact ne_ok I 3 hu r1 r2 hd _ _ _ _ ⟨.bl (!b), H, I, rfl, q⟩
theorem dNe_noX : ∀ x y, noX (dNe x y) = true := by
  intro x y
  unfold dNe
  split
  · split <;> rfl
  · exact dEqS_noX _ _ _
theorem fo_ne (hu : X.A.units + 4 < cLine) : FOp X (compareOp .NotEq) dNe := by
  refine ⟨OpR.pre (OpR.or (op_neD hu) (fo_neS (X := X)).go) ?_⟩
  rintro x y H Q ⟨Hs, H0, vs, ds, d1, d2, d, S, e, k⟩
  unfold dNe at e
  split at e
  · rename_i hs
    split at e
    · rename_i b hb
      cases e
      obtain ⟨a, rfl⟩ := seq_ref S.drop.head hs.1
      obtain ⟨a', rfl⟩ := seq_ref S.head hs.2
      exact .inl ⟨d1, d2, b, a, a', rfl, rfl, S.drop.head, S.head, hb, k _ H S.drop.drop.bl⟩
    · cases e
  · exact .inr ⟨Hs, H0, vs, ds, d1, d2, d, S, e, k⟩
end
end Mi
namespace Mi
open PySem PySem.Spec L2
open PyProof.Rows hiding St
section
variable {X : Cx} {Ex : Value → Prop} {H0 : Hp} {e : Expr} {f : FEnv → Res D} {pos : Pos}
end
end Mi
namespace Mi
open PySem PySem.Spec L2
open PyProof.Rows hiding St
section
variable {X : Cx} {Ex : Value → Prop} {H0 : Hp} {a : Expr} {elts : List Expr} {x1 : Nat} {p pos pos' : Pos} {ta : TA} {fa : FEnv → Res (List D)}
end
end Mi
namespace Mi
open PySem PySem.Spec L2
open PyProof.Rows hiding St
section
variable {X : Cx} {Ex : Value → Prop} {H0 : Hp} {c e k : Expr} {f fk : FEnv → Res D} {pos : Pos}
end
section
variable {X : Cx}
end
section
variable {X : Cx} {Ex : Value → Prop} {H0 : Hp} {e : Expr} {pos : Pos}
end
end Mi
namespace Mi
open PySem PySem.Spec L2
open PyProof.Rows hiding St
section
variable {X : Cx} {Ex : Value → Prop} {H0 : Hp} {st : Stmt} {g : FEnv → FOut}
end
end Mi
namespace Mi
open PySem PySem.Spec L2
open PyProof.Rows hiding St
section
variable {X : Cx}
end
end Mi
namespace Mi
open PySem PySem.Spec L2
open PyProof.Rows hiding St
section
variable {X : Cx} {Ex : Value → Prop} {H0 : Hp} {g : FEnv → FOut} {body : List Stmt} {pos : Pos}
end
section
variable {X : Cx}
end
end Mi
namespace Mi
open PySem PySem.Spec L2
open PyProof.Rows hiding St
section
variable {X : Cx} {Ex : Value → Prop} {H0 : Hp} {e : Expr} {f : FEnv → Res D} {pos : Pos}
end
section
variable {X : Cx} {Ex : Value → Prop} {H0 : Hp} {e : Expr} {f : FEnv → Res D} {pos : Pos}
end
end Mi
namespace Mi
open PySem PySem.Spec L2
open PyProof.Rows hiding St
section
variable {X : Cx} {Ex : Value → Prop} {H0 : Hp} {e : Expr} {f fk : FEnv → Res D} {pos : Pos}
end
end Mi
namespace Mi
open PySem PySem.Spec L2
open PyProof.Rows hiding St
section
variable {X : Cx} {Ex : Value → Prop} {H0 : Hp} {e k : Expr} {f fk : FEnv → Res D} {pos : Pos}
end
end Mi
namespace Mi
open PySem PySem.Spec L2
open PyProof.Rows hiding St
section
variable {X : Cx} {Ex : Value → Prop} {H0 : Hp} {e : Expr} {f : FEnv → Res D} {pos : Pos}
end
end Mi
namespace Mi
open PySem PySem.Spec L2
open PyProof.Rows hiding St
section
variable {Hs H0 Hf H : Hp} {fp L : List Addr} {vs : List (Option V)} {ds : List (Option D)}
end
section
variable {X : Cx} {Ex : Value → Prop} {H0 : Hp} {CX : CXT} {k n : Nat} {f : Addr} {fd : FuncData} {ps : List Str} {F : List D → Res D} {x : Str} {p pos : Pos} {e : Expr} {es : List Expr}
end
end Mi
namespace Mi
open PySem PySem.Spec L2
open PyProof.Rows hiding St
section
variable {X : Cx} {Ex : Value → Prop} {H0 : Hp} {CX : CXT} {k n : Nat} {f : Addr} {fd : FuncData} {ps : List Str} {F : List D → Res D} {x : Str} {p pos : Pos} {e : Expr} {es : List Expr}
end
section
variable {X : Cx} {Ex : Value → Prop} {H0 : Hp} {o e g : Expr} {fd fk fx f : FEnv → Res D} {apos cpos pos : Pos}
end
section
variable {X : Cx} {tg : Expr} {pos : Pos}
end
end Mi
namespace Mi
open PySem PySem.Spec L2
open PyProof.Rows hiding St
section
variable {X : Cx} {Ex : Value → Prop} {H0 : Hp} {o e g : Expr} {fd fk fx f : FEnv → Res D} {apos cpos pos : Pos}
end
end Mi
namespace Mi
open PySem PySem.Spec L2
open PyProof.Rows hiding St
section
variable {prog : Program} {w : World} {A : Around} {E : Value → Shared → Prop} {s : Shared} {env : Env}
variable {nm q : Str} {C N : Addr} {bs bm bmB : List Value} {hdct : Bool} {sn : List Str} {sub : List Value} {ab : Bool} {col : Option Bool} {dd : Option Addr} {k0 k1 k2 k3 k5 : Option Value} {B Bn newId nid initId inN : String} {bmN : List Value}
end
end Mi
namespace Mi
open PySem PySem.Spec L2
open PyProof.Rows hiding St
section
variable {P : Program} {w : World} {K : PySem.W.Frag} {mg : Str → Option Value} {base : Heap} {N : List Str} {qual : Str} {scope : Scope} {f : Addr} {cd : Value} {A : Around} {outer : List Env} {s0 : Shared} {Hb : Hp} {E : XK}
variable {Ex : Value → Prop} {H0 : Hp} {g : FEnv → FOut} {body : List Stmt} {cn dn words : Str} {C Dc : Addr} {j jn : Nat} {p1 p2 p3 p4 p5 p6 p7 pos : Pos}
end
end Mi
namespace Mi
open PySem PySem.Spec L2
open PyProof.Rows hiding St
section
variable {M : Model} {A : Around} {E : Value → Shared → Prop} {s : Shared}
end
section
variable {P : Program} {w : World} {K : PySem.W.Frag} {mg : Str → Option Value} {base : Heap} {N : List Str} {qual : Str} {scope : Scope} {f : Addr} {cd : Value} {A : Around} {outer : List Env} {s : Shared} {H : Hp} {E : XK}
end
end Mi
namespace Mi
open PySem PySem.Spec L2
open PyProof.Rows hiding St
section
variable {P : Program} {w : World} {K : PySem.W.Frag} {mg : Str → Option Value} {base : Heap} {N : List Str} {qual : Str} {scope : Scope} {f : Addr} {cd : Value} {A : Around} {outer : List Env} {s0 : Shared} {Hb : Hp} {E : XK}
end
end Mi
namespace L2
open PySem PySem.Spec PyProof.Rows
section
variable {prog : Program} {w : World} {A : Around} {R : Result → Shared → Prop} {s : Shared}
end
end L2
namespace Mi
open PySem PySem.Spec L2
open PyProof.Rows hiding St
section
variable {elt target iter : Expr} {ifs : List Expr} {scope : Scope} {pos : Pos} {gt : D → FEnv → Res FEnv} {ft : FEnv → Res Bool} {fe : FEnv → Res D}
end
section
variable {P : Program} {w : World} {K : PySem.W.Frag} {mg : Str → Option Value} {base : Heap} {N : List Str} {qual : Str} {fscope : Scope} {f : Addr} {cd : Value} {A : Around} {outer : List Env} {s0 : Shared} {Hb : Hp} {E : XK}
variable {X : Cx} {Ex : Value → Prop} {H0 : Hp} {elt target iter : Expr} {ifs : List Expr} {scope : Scope} {pos : Pos} {own : List Str} {cap : List (Str × Nat)}
end
end Mi
namespace Mi
open PySem PySem.Spec L2
open PyProof.Rows hiding St
section
variable {P : Program} {w : World} {K : PySem.W.Frag} {mg : Str → Option Value} {base : Heap} {N : List Str} {qual : Str} {fscope : Scope} {f : Addr} {cd : Value} {A : Around} {outer : List Env} {s0 : Shared} {Hb : Hp} {E : XK}
variable {Ex : Value → Prop} {H0 : Hp} {elt target iter : Expr} {ifs : List Expr} {scope : Scope} {pos : Pos} {own : List Str} {cap : List (Str × Nat)}
end
end Mi
namespace Mi
open PySem PySem.Spec L2
open PyProof.Rows hiding St
open PySem.Calls Builtin Builtin.ObjectAttr Builtin.Getset_descriptor
def xcAsk (K : PySem.W.Frag) (C : Addr) : Bool := (PySem.W.findIn K (.ref C) "__getattribute__" == some (some (.builtin "BaseException.__getattribute__")) && PySem.W.findIn K (.ref C) "__getattr__" == some none && PySem.W.mroIn K C (.type "BaseException") == some true) && (PySem.W.clsIn K C).isSome && PySem.W.findIn K (.ref C) "__class__" == some (some (.builtin "object.__class__")) && PySem.W.specialIn K (.builtin "object.__class__") "__get__" == some (some (.builtin "getset_descriptor.__get__")) && PySem.W.takesIn K (.builtin "object.__class__") == some true && PySem.W.mroIn K C (.type "object") == some true
section
variable {K : PySem.W.Frag} {prog : Program} {w : World} {A : Around} {x C : Addr}
theorem exc_ask {E : Value → Shared → Prop} {s : Shared} {Q : Option Value → Shared → Prop} (a : xcAsk K C = true) (X : K.In s.heap) (he : ∃ oe, s.heap.get? x = some oe ∧ oe.cls = .ref C) (h : Q (some (.ref C)) { s with toks := s.toks + 1 }) :
    wpAny (model prog w) A (getAttr? (.ref x) "__class__") Q E s := by
  obtain ⟨oe, he, hc⟩ := he
  simp only [xcAsk, Bool.and_eq_true, beq_iff_eq] at a
  obtain ⟨⟨⟨⟨⟨⟨⟨g1, g2⟩, g3⟩, a2⟩, a3⟩, a4⟩, a5⟩, a6⟩ := a
  have T : ∀ {M : Model}, PySem.W.Looks M s.heap (typeOf (.ref x)) (.ref C) := hc ▸ (PySem.W.Looks.ld he).andThen .now
  have F1 := PySem.W.looks_findIn (M := model prog w) X a3
  have F2 := PySem.W.looks_specialIn (M := model prog w) X a4
  have F3 := PySem.W.looks_takesIn (M := model prog w) X a5
  have F4 : PySem.W.Looks (model prog w) s.heap (find (.ref x) (.ref C) "__class__") (.bind (.builtin "getset_descriptor.__get__") (.builtin "object.__class__")) :=
    F1.andThen (F2.andThen ((show PySem.W.Looks (model prog w) s.heap (dataDescriptor? (some (.builtin "object.__class__")) (some (.builtin "getset_descriptor.__get__"))) (some (.builtin "getset_descriptor.__get__", .builtin "object.__class__")) from F3.andThen .now).andThen (PySem.W.Looks.tag .now)))
  obtain ⟨h0, g, d, t, os⟩ := s
  have G1 := PySem.W.looks_findIn (M := model prog w) X g1
  have G2 := PySem.W.looks_findIn (M := model prog w) X g2
  have M1 := PySem.W.looks_mroIn (M := model prog w) X a6
  have M2 := PySem.W.looks_mroIn (M := model prog w) X g3
  have T1 := T (M := model prog w)
  have hx2 : (onTheHeap (Value.ref C) && Value.builtin "BaseException.__getattribute__" == Value.builtin "object.__getattribute__") = false := by
    rw [show (Value.builtin "BaseException.__getattribute__" == Value.builtin "object.__getattribute__") = false by decide +kernel]
    rfl
  have f3 := F.excAttr_ValueError.ga.bind (.ref x)
  unfold getAttr? getAttrBy? getAttrBy
  refine wpAny_bind (wpAny_mkText (wpAny_bind (wpAny_attempt (wpAny_holding (wpAny_bind (T1.at (wpAny_bind (G1.at ?_))))))))
  simp only [hx2, Bool.false_eq_true, if_false]
  refine wpAny_bind (G2.at (wpAny_bind (wpAny_attempt (wpAny_holding ?_))))
  show wpAny _ _ (boundAndCalled _ _ _) _ _ _
  unfold boundAndCalled
  rw [f3]
  refine wpAny_bind (wpAny_pure (wpAny_call (codeAny_call_builtin F.excAttr_ValueError.ga.plain F.entry_bexc_ga ?_)))
  have LI : PySem.W.Looks (model prog w) h0 (isInstance (.ref x) (.type "BaseException")) true := T1.andThen M2
  have hk : builtinKind "BaseException.__getattribute__" = some .slot := by decide +kernel
  have hsplit : splitId "BaseException.__getattribute__" = some ("BaseException", "__getattribute__") := by decide +kernel
  have ha := F.args_bexc_ga (.ref x) (.str "__class__" t)
  show wpAny _ _ (checkBuiltinCall "BaseException.__getattribute__" ⟨[.ref x, .str "__class__" t], []⟩) _ _ _
  simp only [checkBuiltinCall, hk, hsplit]
  refine wpAny_bind (LI.at ?_)
  simp only [Bool.not_true, Bool.false_eq_true, if_false]
  unfold argsOk at ha
  refine Eq.mpr (congrArg (fun z => wpAny (model prog w) A.in1 z _ _ _) ha) ?_
  refine wpAny_pure ?_
  show wpAny _ _ (Builtin.«object.__getattribute__» ⟨[.ref x, .str "__class__" t], []⟩) _ _ _
  unfold Builtin.«object.__getattribute__»
  refine wpAny_bind (wpAny_pure (wpAny_bind (wpAny_pure (wpAny_bind (T1.at (wpAny_bind (F4.at ?_)))))))
  show wpAny _ _ (bindTo _ _ (Value.ref x) (Value.ref C)) _ _ _
  unfold bindTo
  show wpAny _ _ (holding [_] (call _ [_, .ref x, .ref C]) >>= ret) _ _ _
  refine wpAny_bind (wpAny_holding (wpAny_call ?_))
  refine codeAny_call_builtin PySem.W.KF.slot_gs.plain PySem.W.KF.entry_gs (PySem.W.KF.slot_gs.check _ _ _ _ _ _ _ _ PySem.W.KF.type_class (PySem.W.KF.args_gs _ _ _) ?_)
  unfold Builtin.«getset_descriptor.__get__» descrGet
  rw [PySem.W.dga_obj]
  refine wpAny_bind (wpAny_pure ?_)
  unfold descrGetter descrCheckInstance descrNameAndClass isInstance
  simp only [PySem.W.KF.owner_class]
  (repeat lk)
  refine ⟨Code.quiet_builtin _ (by decide +kernel), codeAny_builtin PySem.W.KF.entry_class ?_⟩
  unfold Builtin.«object.__class__» shownTypeOf
  (repeat lk)
  exact h
theorem cls_is {cd : ClassData} {h : Heap} (X : K.In h) (e : PySem.W.clsIn K C = some cd) : ∃ c d sl, h.get? C = some ⟨c, d, .cls cd, sl⟩ := by
  unfold PySem.W.clsIn at e
  split at e
  · rename_i ho
    cases e
    exact ⟨_, _, _, X _ _ ho⟩
  · cases e
theorem kitx_exc (a : xcAsk K C = true) : PySem.W.KitX K (.ref x) (.ref C) (fun h => ∃ oe, h.get? x = some oe ∧ oe.cls = .ref C) := by
  have a' := a
  simp only [xcAsk, Bool.and_eq_true, beq_iff_eq] at a'
  obtain ⟨⟨⟨⟨⟨_, a2⟩, _⟩, _⟩, _⟩, _⟩ := a'
  obtain ⟨cd, hc⟩ := Option.isSome_iff_exists.mp a2
  refine ⟨fun M h _ p => ?_, fun M h X _ => ?_, fun h tp dd its n sl X htp => ?_, fun X p k => exc_ask a X p k⟩
  · obtain ⟨oe, p1, p2⟩ := p
    exact p2 ▸ (PySem.W.Looks.ld p1).andThen .now
  · obtain ⟨c, d, sl, g⟩ := cls_is X hc
    intro A' Q' E' s' k q
    unfold isType loadHead
    exact wpAny_bind (wpAny_loadPart (k _ _ g) (wpAny_pure q))
  · obtain ⟨c, d, sl, g⟩ := cls_is X hc
    refine Bool.eq_false_iff.mpr fun q => ?_
    cases Value.ref.inj (beq_iff_eq.mp q)
    cases g.symm.trans htp
end
def dIsX (yes no : List Addr) : D → Res D
  | .exc (.ref c) => if c ∈ yes then .ok (.bl true) else if c ∈ no then .ok (.bl false) else .bad
  | _ => .bad
section
variable {X : Cx} {Ex : Value → Prop} {H0 : Hp} {e : Expr} {f : FEnv → Res D} {pos : Pos}
theorem call_isX {vT : V} {tv : Value} (hr : ∀ u, RelV vT u → u = tv) : CallR X (.builtin "isinstance") fun us H Q => ∃ (a c : Addr) (φ : Heap → Prop) (b : Bool), us = [.ref a, vT] ∧ H a = some (.ext φ) ∧ (∀ h, φ h → ∃ oe, h.get? a = some oe ∧ oe.cls = .ref c) ∧ xcAsk X.K c = true ∧ PySem.W.kitOne X.K (.ref c) tv = some b ∧ Q (.bl b) H := by
  intro pins s σ H xs us Q I r h
  obtain ⟨a, c, φ, b, rfl, ha, hφ, hx, hk, q⟩ := h
  cases r with
  | cons r1 r2 =>
    cases r2 with
    | cons r3 r4 =>
      cases r4
      cases r1
      have := hr _ r3
      subst this
      obtain ⟨p, _, _⟩ := (show ObjOk X.prog X.w H s.heap a (.ext φ) from I.hok a _ ha)
      exact PySem.W.kia_one (kitx_exc hx) I.kIn (hφ _ p) hk (fun z => nomatch z) fun tk => ⟨.bl b, H, I.tok tk, rfl, q⟩
theorem fe_isX {vT : V} {tv : Value} {yes no : List Addr} {x : Str} {p p2 : Pos} (hr : ∀ u, RelV vT u → u = tv) (hP : PE X (.Name x p2) (tC vT)) (hy : ∀ c ∈ yes, xcAsk X.K c = true ∧ PySem.W.kitOne X.K (.ref c) tv = some true) (hn : ∀ c ∈ no, xcAsk X.K c = true ∧ PySem.W.kitOne X.K (.ref c) tv = some false) (he : FE X H0 Ex e f) (hg : Gl X "isinstance") (hm : X.mg "isinstance" = none)
    (h1 : starEach [e, .Name x p2] X.env = (false, eval e X.env) :: starEach [.Name x p2] X.env := by rfl) (h2 : starEach [.Name x p2] X.env = (false, eval (.Name x p2) X.env) :: starEach [] X.env := by rfl) (h3 : (backTo pos (starEach [.Name x p2] X.env)).any (·.1) = false := by rfl) :
    FE X H0 Ex (.Call (.Name "isinstance" p) [e, .Name x p2] [] pos) (f1 (dIsX yes no) f) := by
  have hb : bootBuiltins "isinstance" = some (.builtin "isinstance") := by decide +kernel
  refine ⟨PE.pre (pe_callB (call_isX hr) hg hm hb (pa_cons he.go (pa_cons hP pa_nil h2) h1) (by decide) (by decide) h1 h3) ?_⟩
  rintro σ H Q ⟨Hs, ρ, ts, S, p⟩
  refine ⟨Hs, ρ, ts, S, (Post.bind p).imp fun d _ p1 v H1 S1 => ?_⟩
  have S1 : SR Hs H0 H1 (some v :: (tvs ts ++ σ)) (some d :: (tds ts ++ ρ)) := S1
  unfold dIsX at p1
  split at p1
  · rename_i c _ _
    have hh := S1.head
    cases hh with
    | exc ha hφ =>
      split at p1
      · rename_i hc
        exact ⟨_, c, _, true, rfl, ha, hφ, (hy c hc).1, (hy c hc).2, p1 _ H1 S1.drop.bl⟩
      · split at p1
        · rename_i hc
          exact ⟨_, c, _, false, rfl, ha, hφ, (hn c hc).1, (hn c hc).2, p1 _ H1 S1.drop.bl⟩
        · exact p1.elim
  · exact p1.elim
end
end Mi
namespace Mi
open PySem PySem.Spec L2
open PyProof.Rows hiding St
structure RoomH (k : Nat) (A : Around) : Prop where
  dp : A.depth + 3 * k + 5 < recursionLimit
  un : A.units + 16 * k + 200 < cLine
def CRH (outer : List Env) (P : Program) (w : World) (H : Hp) (s : Shared) (Q : VK) (r : Result) (s' : Shared) : Prop :=
  match r with
  | .ok (.ret u) => CE outer P w H s Q u s'
  | _ => False
structure CalH (P : Program) (w : World) (K : PySem.W.Frag) (mg : Str → Option Value) (base : Heap) (x : Str) (n : Nat) (F : List D → Res D) (k : Nat) : Prop where
  ex : ∃ f fd ps, ps.length = n ∧ (∀ (A : Around) (outer : List Env) (s : Shared) (H : Hp) (args : Args) (us : List Value) (vs : List V) (Q : VK), RoomH k A → Env0 P w K mg base A outer s H → BindsTo s fd args (ps.zip us) → Vals vs us → spF n F vs H Q (fun _ _ _ => False) →
    codeAny (model P w) A (.call (.ref f) args) (CRH outer P w H s Q) s) ∧ mg x = some (.ref f) ∧ PySem.W.keepIn K (.ref f) = true ∧ Binds K fd ps []
section
variable {P : Program} {w : World} {K : PySem.W.Frag} {mg : Str → Option Value} {base : Heap} {N ps : List Str} {x : Str} {st : Stmt} {k : Nat} {g : FEnv → FOut}
end
section
variable {X : Cx} {Ex : Value → Prop} {H0 : Hp} {e : Expr} {pos : Pos}
end
end Mi
namespace Mi
open PySem PySem.Spec L2
open PyProof.Rows hiding St
section
variable {X : Cx} {Ex : Value → Prop} {H0 : Hp}
end
end Mi
namespace Mi
open PySem PySem.Spec L2
open PyProof.Rows hiding St
theorem xcAsk_of {K : PySem.W.Frag} {C : Addr} (h1 : PySem.W.findIn K (.ref C) "__getattribute__" = some (some (.builtin "BaseException.__getattribute__"))) (h7 : PySem.W.findIn K (.ref C) "__getattr__" = some none) (h8 : PySem.W.mroIn K C (.type "BaseException") = some true) (h2 : PySem.W.findIn K (.ref C) "__class__" = some (some (.builtin "object.__class__"))) (h3 : PySem.W.specialIn K (.builtin "object.__class__") "__get__" = some (some (.builtin "getset_descriptor.__get__"))) (h4 : PySem.W.takesIn K (.builtin "object.__class__") = some true) (h5 : PySem.W.mroIn K C (.type "object") = some true) : xcAsk K C = true := by
  have h6 : (PySem.W.clsIn K C).isSome = true := by
    obtain ⟨cd, e, _⟩ := Option.bind_eq_some_iff.mp h5
    rw [e]; rfl
  unfold xcAsk
  rw [h1, h2, h3, h4, h5, h6, h7, h8]
  decide
theorem al0 {p : Addr → Prop} : ∀ c ∈ ([] : List Addr), p c := fun _ m => nomatch m
theorem al1 {p : Addr → Prop} {x : Addr} {l : List Addr} (h : p x) (r : ∀ c ∈ l, p c) : ∀ c ∈ x :: l, p c := fun c m => by
  rcases List.mem_cons.mp m with rfl | m
  · exact h
  · exact r c m
section
variable {X : Cx} {pins : List (Addr × Obj)} {σ : St} {H H1 : Hp} {s s1 : Shared} {a : Addr} {φ : Heap → Prop}
theorem Inv.adopt (I : Inv X pins σ H s) (h0 : H a = none) (hs : ∀ o, X.s₀.heap.get? a = some o → a ∈ X.ex) (hl : a ≠ X.env.locals) (hc : ∀ x c, X.env.cells.lookup x = some c → c ≠ a) (hp : ∀ p ∈ X.pn ++ pins, p.1 ≠ a)
    (hφ : φ s.heap ∧ (∃ o, s.heap.get? a = some o) ∧ ∀ h1 h2 : Heap, φ h1 → (∀ o, h1.get? a = some o → h2.get? a = some o) → φ h2) : Inv X pins σ (upd H a (.ext φ)) s := by
  have up : ∀ b o, H b = some o → upd H a (.ext φ) b = some o := fun b o e => by
    rw [upd_ne fun z => by rw [z, h0] at e; cases e]; exact e
  refine ⟨I.ok, I.os, I.bare, ⟨I.base.keep, I.base.slot, fun b o e n hx => ?_, I.base.there, fun b xs e => up _ _ (I.base.tups b xs e), fun b o u e => up _ _ (I.base.frzs b o u e), fun b ps e => ?_⟩, I.loc, I.cell, ?_, fun x c e => ?_, fun p m => ?_, fun b ob e => ?_, I.len⟩
  · rw [upd_ne fun z => by rw [z] at e hx; exact hx (hs o e)]
    exact I.base.free b o e n hx
  · obtain ⟨m, z⟩ := I.base.tbls b ps e
    exact ⟨m, up _ _ z⟩
  · rw [upd_ne (Ne.symm hl)]; exact I.free
  · rw [upd_ne (hc x c e)]; exact I.freeC x c e
  · obtain ⟨z1, z2, z3⟩ := I.pin p m
    exact ⟨z1, by rw [upd_ne (hp p m)]; exact z2, z3⟩
  · by_cases hb : b = a
    · subst hb
      rw [upd_same] at e
      cases e
      exact hφ
    · rw [upd_ne hb] at e
      exact (I.hok b ob e).stay (fun _ _ _ q => q) (fun _ q => up _ _ q) fun _ _ q => up _ _ q
end
end Mi
namespace Mi
open PySem PySem.Spec L2
open PyProof.Rows hiding St
section
variable {X : Cx} {Ex : Value → Prop} {H0 : Hp} {g gh : FEnv → FOut} {body hs : List Stmt} {st1 : Stmt} {i : Nat} {n cn : Str} {W : Addr} {cs : List Addr} {p1 p7 pos : Pos}
end
end Mi
namespace Mi
open PySem PySem.Spec L2
open PyProof.Rows hiding St
def dRep : D → D → Res D := fun x y => match x, y with
  | .lst t xs, .int j => match D.its (.lst t xs) with
    | some xs' => if -(2 ^ 63) ≤ j ∧ j < 2 ^ 63 ∧ xs'.length * j.toNat ≤ 1000 then .ok (.lst .o (List.replicate j.toNat xs').flatten) else .bad
    | _ => .bad
  | _, _ => .bad
theorem dRep_noX : ∀ x y, noX (dRep x y) = true := by
  intro x y
  unfold dRep
  split
  · split
    · split <;> rfl
    · rfl
  · rfl
theorem fo_rep {X : Cx} : FOp X (binaryOp .Mult) dRep := by
  refine ⟨OpR.pre op_rep ?_⟩
  rintro x y H Q ⟨Hs, H0, vs, ds, d1, d2, d, S, e, k⟩
  unfold dRep at e
  split at e
  · rename_i t xs j
    split at e
    · rename_i xs' hx
      split at e
      · rename_i hc
        cases e
        cases SR.isInt S
        obtain ⟨Hf, fp, O, F⟩ := S.drop
        obtain ⟨a1, us1, rfl, e1, Hk, fr, O2, F2, s2, R1⟩ := O.items F hx
        refine ⟨a1, j, us1, rfl, rfl, e1, hc.1, hc.2.1, by rw [R1.length]; exact Nat.le_trans hc.2.2 (by decide), fun p hp => k _ _ ?_⟩
        refine SR.laidL O2 F2 (R1.rep j.toNat) (fun z m => ?_) hp
        obtain ⟨l, m1, m2⟩ := List.mem_flatten.mp m
        rw [List.mem_replicate] at m1
        rw [m1.2] at m2
        exact D.its_tag hx z m2
      · cases e
    · cases e
  · cases e
end Mi
namespace Mi
open PySem PySem.Spec L2
open PyProof.Rows hiding St
abbrev SE := List (Int × (Int × Int))
inductive EP {α β : Type} (R : α → β → Prop) : List α → List β → Prop
  | nil : EP R [] []
  | cons {a b l m} : R a b → EP R l m → EP R (a :: l) (b :: m)
section
variable {prog : Program} {w : World} {A : Around} {E : Value → Shared → Prop} {s : Shared} {S a : Addr} {L L' : SE} {t t' : SetTable} {q : Int × Int} {B : Nat}
end
section
variable {prog : Program} {w : World} {A : Around} {R : Result → Shared → Prop} {I : Addr} {fp wr : List Addr} {G : Array GenState → Array GenState → Prop} {n B : Nat} {P : Nat → Value → Prop} {St : Nat → Shared → Prop} {Lf : SE} {tf : SetTable}
end
section
variable {prog : Program} {w : World} {A : Around} {E : Value → Shared → Prop} {s : Shared}
end
end Mi
namespace Mi
open PySem PySem.Spec L2
open PyProof.Rows hiding St
section
variable {X : Cx} {Ex : Value → Prop} {H0 : Hp} {e : Expr} {f : FEnv → Res D} {pos : Pos}
end
end Mi
namespace Mi
open PySem PySem.Spec L2
open PyProof.Rows hiding St
section
variable {X : Cx}
end
end Mi
namespace Mi
open PySem L2
end Mi
namespace Mi
open PySem PySem.Spec L2
open PyProof.Rows hiding St
theorem Own.blank {Hf H : Hp} (x : Option V) : ∀ {fp vs ds} {i : Nat}, Own Hf H fp vs ds → ∃ fp', Own Hf H fp' (vs.set i x) (ds.set i none) ∧ fp'.Sublist fp := by
  intro _ _ _ ic hc
  cases hc with
  | nil => exact ⟨_, by simpa using .nil, .refl _⟩
  | skip r =>
    cases ic with
    | zero => exact ⟨_, .skip r, .refl _⟩
    | succ i =>
      obtain ⟨fp', o, s⟩ := Own.blank x (i := i) r
      exact ⟨fp', .skip o, s⟩
  | @cons f1 _ _ _ _ _ q0 r =>
    cases ic with
    | zero => exact ⟨_, .skip r, List.sublist_append_right _ _⟩
    | succ i =>
      obtain ⟨fp', o, s⟩ := Own.blank x (i := i) r
      exact ⟨f1 ++ fp', .cons q0 o, s.append_left f1⟩
  | brw t q0 r =>
    cases ic with
    | zero => exact ⟨_, .skip r, .refl _⟩
    | succ i =>
      obtain ⟨fp', o, s⟩ := Own.blank x (i := i) r
      exact ⟨fp', .brw t q0 o, s⟩
theorem ixN_lt {n : Nat} {i : Int} {j : Nat} (h : ixN n i = some j) : j < n := by
  unfold ixN at h
  split at h
  · split at h
    · cases h; omega
    · cases h
  · split at h
    · cases h; omega
    · cases h
section
variable {X : Cx} {Ex : Value → Prop} {H0 : Hp} {c : Expr} {t : FEnv → Res Bool} {pos : Pos}
end
end Mi
namespace Mi
open PySem PySem.Spec L2
open PyProof.Rows hiding St
open PySem.AutoSeq1 (wpAny_loadPart')
section
variable {prog : Program} {w : World} {A : Around} {E : Value → Shared → Prop} {s : Shared}
end
end Mi
namespace Mi
open PySem PySem.Spec L2
open PyProof.Rows hiding St
section
variable {prog : Program} {w : World} {A : Around} {E : Value → Shared → Prop} {s : Shared} {vs : List Value}
end
end Mi
namespace Mi
open PySem PySem.Spec L2
open PyProof.Rows hiding St
section
variable {prog : Program} {w : World} {A : Around} {E : Value → Shared → Prop} {s : Shared}
end
inductive LL (H : Hp) : List V → List (List Str) → Prop
  | nil : LL H [] []
  | cons {a s vs ss} : H a = some (.lst (s.map V.str)) → LL H vs ss → LL H (.ref a :: vs) (s :: ss)
section
variable {X : Cx}
end
end Mi
namespace Mi
open PySem L2
end Mi
namespace Mi
open PySem PySem.Spec L2
open PyProof.Rows hiding St
def spS (C : Addr) (n : Nat) (F : Addr → List (Str × D) → List D → Res (D × List (Str × D))) : Sp := fun vs H Q E => ∃ Hs us ds x dx fvs fs, vs = .ref x :: us ∧ ds.length = n ∧ x ≠ dx ∧ H x = some (.ins C dx fvs) ∧ RepF Hs fvs fs ∧ H dx = some (.own x) ∧ Hs x = none ∧ Hs dx = none ∧ Same Hs H ∧ Reps Hs us ds ∧ (∀ d ∈ ds, d.tag = .f) ∧
  match F x fs ds with
  | .ok (d, fs') => d.tag ≠ .b ∧ ∀ v H', SR Hs (less2 H x dx) H' [some v, some (.ref x)] [some d, some (.slf x C fs')] → Q v H'
  | .exc Cx => ∀ H', Same (less2 H x dx) H' → E Cx none H'
  | .bad => False
def TSM (H0 : Hp) (Ex : Value → Prop) (i : Nat) (g : FEnv → FOut) : TS := fun D σ H => ∃ Hs ρ, SS Hs H0 H σ ρ ∧ match g ρ with
  | .nx ρ' => ∀ σ' H', SS Hs H0 H' σ' ρ' → ∀ v, σ'[i]? = some (some v) → D.rt v H'
  | .exc C => Ex C
  | _ => False
structure FSM (X : Cx) (H0 : Hp) (Ex : Value → Prop) (st : List Stmt) (i : Nat) (g : FEnv → FOut) : Prop where
  go : PSs X st (TSM H0 Ex i g)
section
variable {X : Cx} {Ex : Value → Prop} {H0 : Hp} {g g1 g2 : FEnv → FOut} {pos : Pos} {st : Stmt} {sts : List Stmt}
end
end Mi
namespace Mi
open PySem PySem.Spec L2
open PyProof.Rows hiding St
structure CalS (P : Program) (w : World) (K : PySem.W.Frag) (mg : Str → Option Value) (base : Heap) (x : Str) (C : Addr) (n : Nat) (F : Addr → List (Str × D) → List D → Res (D × List (Str × D))) (k : Nat) : Prop where
  ex : ∃ f fd ps, FnOk P w K mg base (CXm P w) k f fd ps (spS C n F) ∧ mg x = some (.ref f) ∧ PySem.W.keepIn K (.ref f) = true ∧ Binds K fd ps []
structure MetS (P : Program) (w : World) (K : PySem.W.Frag) (mg : Str → Option Value) (base : Heap) (m : Str) (C : Addr) (n : Nat) (F : Addr → List (Str × D) → List D → Res (D × List (Str × D))) (k : Nat) : Prop where
  ex : ∃ f fd ps, FnOk P w K mg base (CXm P w) k f fd ps (spS C n F) ∧ Meth K C m f ∧ Binds K fd ps []
section
variable {X : Cx} {Ex : Value → Prop} {H0 : Hp} {e : Expr} {es : List Expr} {fa : FEnv → Res (List D)} {pos apos p1 : Pos} {C : Addr} {n k j : Nat} {F : Addr → List (Str × D) → List D → Res (D × List (Str × D))}
end
end Mi
namespace Mi
open PySem PySem.Spec L2
open PyProof.Rows hiding St
section
variable {X : Cx} {Ex : Value → Prop} {H0 : Hp} {g : FEnv → FOut} {body : List Stmt} {cn : Str} {C : Addr} {p1 p2 p6 p7 pos : Pos}
end
end Mi
namespace Mi
open PySem PySem.Spec L2
open PyProof.Rows hiding St
section
variable {X : Cx}
end
end Mi
namespace Mi
open PySem L2
def frzAll (ρ : FEnv) : FEnv := ρ.map (Option.map D.fz)
def rtOnly : FOut → FOut
  | .rt d => .rt d
  | _ => .bad
end Mi
namespace Mi
open PySem PySem.Spec L2
open PyProof.Rows hiding St
def Ak (bs : List Bool) (σ0 σ : St) : Prop := σ.length = σ0.length ∧ ∀ j : Nat, bs[j]? = some true → σ[j]? = σ0[j]?
structure Lying (H0 Bb Ho Hs : Hp) : Prop where
  b : Same Bb Hs
  o : Same Ho Hs
  n : ∀ a o, Hs a = some o → (∃ o', Ho a = some o') ∨ H0 a = none
def PostA (bs : List Bool) (σ0 : St) (Hs H0 Ho : Hp) (Ex : Value → Prop) (D : Ends) (r : FOut) : Prop :=
  match r with
  | .nx ρ => ∀ σ H, SS Hs H0 H σ ρ → Ak bs σ0 σ → D.nx σ H
  | .rt d => ∀ v H, SR Ho H0 H [some v] [some d] → D.rt v H
  | .bk ρ => ∀ σ H, SS Hs H0 H σ ρ → Ak bs σ0 σ → D.bk σ H
  | .ct ρ => ∀ σ H, SS Hs H0 H σ ρ → Ak bs σ0 σ → D.ct σ H
  | .exc C => Ex C
  | .bad => False
def TSA (bs : List Bool) (σ0 : St) (Bb Ho H0 : Hp) (Ex : Value → Prop) (g : FEnv → FOut) : TS := fun D σ H => ∃ Hs ρ, Lying H0 Bb Ho Hs ∧ SS Hs H0 H σ ρ ∧ Ak bs σ0 σ ∧ PostA bs σ0 Hs H0 Ho Ex D (g ρ)
structure SA (X : Cx) (bs : List Bool) (H0 : Hp) (Ex : Value → Prop) (st : Stmt) (g : FEnv → FOut) : Prop where
  go : ∀ σ0 Bb Ho, PS X st (TSA bs σ0 Bb Ho H0 Ex g)
structure SAs (X : Cx) (bs : List Bool) (H0 : Hp) (Ex : Value → Prop) (st : List Stmt) (g : FEnv → FOut) : Prop where
  go : ∀ σ0 Bb Ho tl u, PSs X tl u → PSs X (st ++ tl) (tSeq (TSA bs σ0 Bb Ho H0 Ex g) u)
section
variable {X : Cx} {bs : List Bool} {Ex : Value → Prop} {H0 : Hp} {e iter tg : Expr} {f : FEnv → Res D} {g g1 g2 : FEnv → FOut} {pos : Pos} {st : Stmt} {sts : List Stmt}
def TGA (bs : List Bool) (σ0 : St) (H0 : Hp) (gt : D → FEnv → Res FEnv) : TG := fun v σ H Q => ∃ Hs ρ d ts, SX Hs H0 H ((v, d) :: ts) σ ρ ∧ d.tag ≠ .b ∧ noB ρ ∧ Ak bs σ0 σ ∧ Post (fun _ => False) (gt d ρ) fun ρ' => ∀ σ', SX Hs H0 H ts σ' ρ' → noB ρ' → Ak bs σ0 σ' → Q σ' H
structure GA (X : Cx) (bs : List Bool) (H0 : Hp) (tg : Expr) (gt : D → FEnv → Res FEnv) : Prop where
  go : ∀ σ0, PG X tg (TGA bs σ0 H0 gt)
def TGAs (bs : List Bool) (σ0 : St) (H0 : Hp) (is : List Nat) : TGs := fun vs σ H Q => ∃ Hs Hf fp ρ ds ts, Own Hf H fp (tvs ts ++ σ) (tds ts ++ ρ) ∧ Fine Hs H0 Hf H fp ∧ Reps Hf vs ds ∧ noB ρ ∧ Ak bs σ0 σ ∧ Post (fun _ => False) (tgNames is ds ρ) fun ρ' => ∀ σ', SX Hs H0 H ts σ' ρ' → noB ρ' → Ak bs σ0 σ' → Q σ' H
structure GAs (X : Cx) (bs : List Bool) (H0 : Hp) (es : List Expr) (is : List Nat) : Prop where
  go : ∀ σ0, PGs X es (TGAs bs σ0 H0 is)
end
end Mi
namespace Mi
open PySem PySem.Spec L2
open PyProof.Rows hiding St
theorem Own.frozAll {Hf H : Hp} (s : Same Hf H) {fq : List Addr} : ∀ {fp vs ds}, Own Hf H fp vs ds → noB ds → (∀ a ∈ fp, a ∈ fq) → Own (mix Hf H fq) H [] vs (frzAll ds) := by
  intro _ _ _ hc n m
  cases hc with
  | nil => exact .nil
  | skip r => exact .skip (Own.frozAll s r (fun d h => n d (List.mem_cons_of_mem _ h)) m)
  | @cons fp fq' v d vs ds q r =>
    exact Own.cons (fp := []) (.fz (q.froz s fun a h => m a (List.mem_append_left _ h)) d.fz_tag) (Own.frozAll s r (fun d h => n d (List.mem_cons_of_mem _ h)) fun a h => m a (List.mem_append_right _ h))
  | brw t q r => exact absurd t (n _ List.mem_cons_self)
section
variable {X : Cx} {Ex : Value → Prop} {H0 : Hp} {pos : Pos} {bs : List Bool} {g gr : FEnv → FOut} {seg rest : List Stmt}
end
end Mi
namespace Mi
open PySem L2
end Mi
namespace Mi
open PySem PySem.Spec L2
open PyProof.Rows hiding St
section
variable {X : Cx} {Ex : Value → Prop} {H0 : Hp} {a b : Expr} {pos : Pos}
end
end Mi
namespace Mi
open PySem L2
mutual
def toPy : D → Option PyData
  | .int i => some (.int i)
  | .lst _ xs => (toPys xs).map .list
  | _ => none
def toPys : List D → Option (List PyData)
  | [] => some []
  | x :: xs => match toPy x, toPys xs with
    | some d, some ds => some (d :: ds)
    | _, _ => none
end
def cRepr : List D → Res D
  | [.lst t xs] => match toPy (.lst t xs) with
    | some pd => if pd.showable = true ∧ pd.hasDict = false ∧ pd.depth ≤ 8 ∧ pd.shown.length ≤ sizeLine then .ok (.str pd.shown) else .bad
    | none => .bad
  | _ => .bad
end Mi
namespace Mi
open PySem PySem.Spec L2
open PyProof.Rows hiding St
section
variable {X : Cx} {pins : List (Addr × Obj)} {σ : St} {H : Hp} {s : Shared}
mutual
theorem Rep.reads (I : Inv X pins σ H s) : ∀ {v d u pd}, Rep H v d → RelV v u → toPy d = some pd → ∃ as, Reads s.heap u pd as := by
  intro v d u pd r rl h
  cases d with
  | int i =>
    cases r
    obtain ⟨t, rfl⟩ := rl
    have h : some (PyData.int i) = some pd := h
    cases h
    exact ⟨[], .int i t⟩
  | lst t xs =>
    cases r with
    | @lst a us _ _ hH R =>
      cases rl
      have h : (toPys xs).map PyData.list = some pd := h
      cases e : toPys xs with
      | none => rw [e] at h; cases h
      | some ds =>
        rw [e] at h
        have h : some (PyData.list ds) = some pd := h
        cases h
        obtain ⟨its, n, w, g, _⟩ := I.lst hH
        obtain ⟨as, ra⟩ := Reps.reads I R w e
        exact ⟨a :: as, .list g rfl rfl (by simpa using ra)⟩
  | _ => cases h
theorem Reps.reads (I : Inv X pins σ H s) : ∀ {vs ds us pds}, Reps H vs ds → Vals vs us → toPys ds = some pds → ∃ as, ReadsAll s.heap us pds as := by
  intro vs ds us pds r w h
  cases r with
  | nil =>
    cases w
    have h : some ([] : List PyData) = some pds := h
    cases h
    exact ⟨[], .nil⟩
  | @cons v d vs ds a b =>
    cases w with
    | cons ru rw' =>
      have h : (match toPy d, toPys ds with
        | some d, some ds => some (d :: ds)
        | _, _ => none) = some pds := h
      cases e1 : toPy d with
      | none => rw [e1] at h; cases h
      | some pd =>
        cases e2 : toPys ds with
        | none => rw [e1, e2] at h; cases h
        | some pds' =>
          rw [e1, e2] at h
          have h : some (pd :: pds') = some pds := h
          cases h
          obtain ⟨a1, r1⟩ := Rep.reads I a ru e1
          obtain ⟨a2, r2⟩ := Reps.reads I b rw' e2
          exact ⟨a1 ++ a2, .cons r1 r2⟩
end
theorem call_repr (hg : X.A.guards = some []) (hu : X.A.units + 16 < cLine) : CallR X (.builtin "repr") (fun xs H Q => ∃ a d pd, xs = [.ref a] ∧ Rep H (.ref a) d ∧ toPy d = some pd ∧ pd.showable = true ∧ pd.hasDict = false ∧ pd.depth ≤ 8 ∧ pd.shown.length ≤ sizeLine ∧ Q (.str pd.shown) H) := by
  intro pins s σ H xs us Q I r h
  obtain ⟨a, d, pd, rfl, rp, e, hs, hd, hdp, hz, q⟩ := h
  obtain ⟨u, rfl, rx⟩ := vals1 r
  cases rx
  obtain ⟨as, ra⟩ := Rep.reads I rp rfl e
  exact repr_of_reads' ra hs (PyData.noDict_hsm hd) hg (by omega) (fun _ _ z => z) (fun h' u tk k => ⟨.str pd.shown, H, I.kept k, ⟨_, rfl⟩, q⟩) hz
theorem cRepr_noX : ∀ es, noX (cRepr es) = true := by
  intro es
  unfold cRepr
  split
  · split
    · split <;> rfl
    · rfl
  · rfl
theorem fc_repr (hg : X.A.guards = some []) (hu : X.A.units + 16 < cLine) : FCall X (.builtin "repr") cRepr := by
  refine ⟨CallR.pre (call_repr hg hu) ?_⟩
  rintro us H Q ⟨Hs, H0, vs, ds, es, d, hl, S, e, k⟩
  unfold cRepr at e
  split at e
  · rename_i t xs
    split at e
    · rename_i pd hp
      split at e
      · rename_i hc
        cases e
        obtain ⟨u, rfl⟩ := one_of hl rfl
        have S' : SR Hs H0 H (some u :: vs) (some (.lst t xs) :: ds) := S
        have r := S'.head
        cases r with
        | lst h q => exact ⟨_, _, pd, rfl, .lst h q, hp, hc.1, hc.2.1, hc.2.2.1, hc.2.2.2, k _ _ S'.drop.str⟩
      · cases e
    · cases e
  · cases e
end
end Mi
namespace Mi
open PySem PySem.Spec L2
open PyProof.Rows hiding St
def nw (H0 Hf : Hp) : Hp := fun a => if (H0 a).isNone = true then Hf a else none
theorem nw_le {H0 Hf : Hp} : Same (nw H0 Hf) Hf := fun a o e => by
  unfold nw at e
  split at e
  · exact e
  · cases e
theorem nw_mono {H0 Hf Hg : Hp} (s : Same Hf Hg) : Same (nw H0 Hf) (nw H0 Hg) := fun a o e => by
  unfold nw at e ⊢
  split at e
  · rename_i h; rw [if_pos h]; exact s a o e
  · cases e
mutual
def ownAll : D → Bool
  | .lst .o xs => ownAlls xs
  | .int _ => true
  | _ => false
def ownAlls : List D → Bool
  | [] => true
  | x :: xs => ownAll x && ownAlls xs
end
mutual
theorem RepO.any {Hf Hg H : Hp} : ∀ {fp v d}, RepO Hf H fp v d → ownAll d = true → RepO Hg H fp v d := by
  intro _ _ d hc e
  cases hc with
  | fz h t =>
    cases d with
    | int i => cases h; exact .fz .int rfl
    | lst t' xs => cases t' with
      | o => cases t
      | f => simp [ownAll] at e
      | b => simp [ownAll] at e
    | _ => simp [ownAll] at e
  | lst h r => exact .lst h (RepOs.any r (by simpa [ownAll] using e))
  | dic h r => simp [ownAll] at e
  | slf h q r => simp [ownAll] at e
theorem RepOs.any {Hf Hg H : Hp} : ∀ {fp v d}, RepOs Hf H fp v d → ownAlls d = true → RepOs Hg H fp v d := by
  intro _ _ _ hc e
  cases hc with
  | nil => exact .nil
  | cons h r =>
    simp only [ownAlls, Bool.and_eq_true] at e
    exact .cons (RepO.any h e.1) (RepOs.any r e.2)
end
theorem ownAll_tag {d : D} (h : ownAll d = true) : d.tag ≠ .b := by
  cases d with
  | lst t xs => cases t with
    | b => simp [ownAll] at h
    | _ => exact fun z => nomatch z
  | _ => first | (simp [ownAll] at h; done) | exact fun z => nomatch z
structure SN (Hs H0 H : Hp) (σ : St) (ρ : FEnv) : Prop where
  ex : ∃ Hf fp, Own Hf H fp σ ρ ∧ Fine Hs H0 Hf H fp ∧ noB ρ ∧ ∃ a C dx fvs ks, σ[0]? = some (some (.ref a)) ∧ ρ[0]? = some (some (.slf a C ks)) ∧ H a = some (.ins C dx fvs) ∧ RepF (nw H0 Hf) fvs ks
def TSN (H0 : Hp) (Ex : Value → Prop) (P : Hp → Hp → Hp → St → FEnv → Prop) (g : FEnv → FOut) : TS := fun D σ H => ∃ Hs ρ, P Hs H0 H σ ρ ∧ match g ρ with
  | .nx ρ' => ∀ σ' H', SN Hs H0 H' σ' ρ' → D.nx σ' H'
  | .exc C => Ex C
  | _ => False
structure FSN (X : Cx) (H0 : Hp) (Ex : Value → Prop) (st : List Stmt) (g : FEnv → FOut) : Prop where
  go : PSs X st (TSN H0 Ex SN g)
structure FN0 (X : Cx) (H0 : Hp) (Ex : Value → Prop) (st : List Stmt) (g : FEnv → FOut) : Prop where
  go : PSs X st (TSN H0 Ex SS g)
def gNone (g : FEnv → FOut) : FEnv → FOut := fun ρ => match ρ[0]? with
  | some (some (D.slf _ _ [])) => g ρ
  | _ => .bad
def gFldN (C : Addr) (fld : Str) (fv : FEnv → Res D) : FEnv → FOut := fun ρ => match ρ[0]? with
  | some (some (D.slf p C' fs)) => aft (fv (frzAll ρ)) fun d => if C' ≠ C ∨ ownAll d = false ∨ 1000 ≤ fs.length then .bad else .nx (ρ.set 0 (some (.slf p C' (putFD fld d.fz fs))))
  | _ => .bad
theorem Fine.all {Hs H0 Hf H : Hp} {fp : List Addr} (F : Fine Hs H0 Hf H fp) : Fine (mix Hf H fp) H0 (mix Hf H fp) H [] := ⟨List.nodup_nil, fun _ m => (nomatch m), mix_le F.fh, F.zh, Same.refl _, fun a o e => .inl ⟨o, e⟩⟩
theorem SR.all {Hs H0 Hf H : Hp} {fp : List Addr} {σ : St} {ρ : FEnv} (O : Own Hf H fp σ ρ) (F : Fine Hs H0 Hf H fp) (n : noB ρ) : SR (mix Hf H fp) H0 H σ (frzAll ρ) := ⟨_, _, Own.frozAll F.fh O n (fq := fp) fun a m => m, F.all⟩
section
variable {X : Cx} {Ex : Value → Prop} {H0 : Hp} {g g1 g2 : FEnv → FOut} {pos : Pos} {st : Stmt} {sts : List Stmt} {value : Expr} {fv : FEnv → Res D} {fld : Str} {C : Addr}
theorem fn0_cons (h1 : FS X H0 Ex st g1) (h2 : FN0 X H0 Ex sts g2) : FN0 X H0 Ex (st :: sts) (gSeq g1 g2) := by
  refine ⟨PSs.pre (pss_cons h1.go h2.go) ?_⟩
  rintro D σ H ⟨Hs, ρ, S, p⟩
  refine ⟨Hs, ρ, S, ?_⟩
  unfold gSeq at p
  cases e : g1 ρ with
  | nx ρ' => rw [e] at p; exact fun σ' H' S' => ⟨Hs, ρ', S', p⟩
  | rt d => rw [e] at p; exact p.elim
  | bk ρ' => rw [e] at p; exact p.elim
  | ct ρ' => rw [e] at p; exact p.elim
  | exc C => rw [e] at p; exact p
  | bad => rw [e] at p; exact p.elim
theorem fn0_in (h : FSN X H0 Ex sts g) : FN0 X H0 Ex sts (gNone g) := by
  refine ⟨PSs.pre h.go ?_⟩
  rintro E1 σ H ⟨Hs, ρ, ⟨S, n⟩, p⟩
  have key : (∃ a C', ρ[0]? = some (some (D.slf a C' [])) ∧ gNone g ρ = g ρ) ∨ gNone g ρ = .bad := by
    unfold gNone
    split
    · rename_i a C' hx; exact .inl ⟨a, C', hx, rfl⟩
    · exact .inr rfl
  rcases key with ⟨a, C', hx, e⟩ | e
  · rw [e] at p
    refine ⟨Hs, ρ, ⟨?_⟩, p⟩
    obtain ⟨Hf, fp, O, F⟩ := S
    obtain ⟨q, fpx, fpr, e', rq, pm, w⟩ := O.write n F.nd hx rfl
    cases rq with
    | slf hq hdx R =>
      cases R with
      | nil => exact ⟨Hf, fp, O, F, n, a, C', _, [], [], e', hx, hq, .nil⟩
  · rw [e] at p; exact p.elim
theorem ps_fldN {x : Str} {p1 pos' : Pos} (ho : PV X (.Name x p1) 0) (hv : FE X H0 Ex value fv) (c : Cls X.K C) (na : NoAttr X.K C fld) (hs : swapsWith value (some (.Attribute (.Name x p1) fld pos')) pos.line X.env = pure false := by rfl) :
    PS X (.Assign [.Attribute (.Name x p1) fld pos'] value pos) (TSN H0 Ex SN (gFldN C fld fv)) := by
  refine PS.pre (ps_fld ho.go hv.go hs) ?_
  rintro En σ H ⟨Hs, ρ, ⟨Hf, fp, O, F, n, a, C', dx, fvs, ks, h0, hx, hH, RF⟩, p⟩
  unfold gFldN at p
  rw [hx] at p
  dsimp only at p
  refine ⟨mix Hf H fp, frzAll ρ, [], SR.all O F n, ?_⟩
  cases ef : fv (frzAll ρ) with
  | exc Cx => rw [ef] at p; exact p
  | bad => rw [ef] at p; exact p.elim
  | ok d =>
    rw [ef] at p
    intro v H1 S1
    have pk : (match (if C' ≠ C ∨ ownAll d = false ∨ 1000 ≤ ks.length then FOut.bad else .nx (ρ.set 0 (some (.slf a C' (putFD fld d.fz ks))))) with
      | .nx ρ' => ∀ σ' H', SN Hs H0 H' σ' ρ' → En.nx σ' H'
      | .exc C => Ex C
      | _ => False) := p
    by_cases hc : C' ≠ C ∨ ownAll d = false ∨ 1000 ≤ ks.length
    · rw [if_pos hc] at pk; exact pk.elim
    rw [if_neg hc] at pk
    have hC : C' = C := Decidable.byContradiction fun z => hc (.inl z)
    subst hC
    have hown : ownAll d = true := by
      cases z : ownAll d with
      | true => rfl
      | false => exact absurd (.inr (.inl z)) hc
    have hlen : ks.length < 1000 := Nat.lt_of_not_le fun z => hc (.inr (.inr z))
    obtain ⟨Hf1, fp1, O1, F1⟩ := (show SR (mix Hf H fp) H0 H1 (some v :: σ) (some d :: frzAll ρ) from S1)
    cases O1 with
    | brw z _ _ => exact absurd z (ownAll_tag hown)
    | cons q r =>
      rename_i f1 f2
      have q0 : RepO (fun _ => none) H1 f1 v d := q.any hown
      have own1 : ∀ x ∈ f1, Hf1 x = none ∧ H0 x = none := fun x m => F1.own x (List.mem_append_left _ m)
      have sz : Same (mix Hf H fp) H1 := F1.sf.trans F1.fh
      have hf1 : ∀ x ∈ f1, Hf x = none := fun x m => by
        cases e : Hf x with
        | none => rfl
        | some o => have := F1.sf x o (mix_same F.fh x o e); rw [(own1 x m).1] at this; cases this
      have sHn : Same Hf (mix Hf H1 f1) := mix_same ((mix_same F.fh).trans sz)
      have kp : ∀ x o, x ∈ fp → H x = some o → H1 x = some o := fun x o m e => sz x o (by rw [mix_in m]; exact e)
      have dj : ∀ x, x ∈ fp → x ∉ f1 := fun x m m1 => by
        obtain ⟨o, e⟩ := O.there x m
        have := F1.sf x o (by rw [mix_in m]; exact e)
        rw [(own1 x m1).1] at this; cases this
      have O2 : Own (mix Hf H1 f1) H1 fp σ ρ := O.keep sHn n kp
      obtain ⟨pp, fpx, fpr, e', rq, pm, w⟩ := O2.write n F.nd hx rfl
      cases rq with
      | slf hq hdx R =>
        rename_i dx' fvs'
        rw [h0] at e'
        have F2 : Fine Hs H0 (mix Hf H1 f1) H1 fp := by
          refine ⟨F.nd, fun x m => ⟨?_, (F.own x m).2⟩, mix_le ((mix_same F.fh).trans sz), F1.zh, F.sf.trans sHn, fun x o e => ?_⟩
          · rw [mix_out (dj x m)]; exact (F.own x m).1
          · by_cases hm : x ∈ f1
            · exact .inr (own1 x hm).2
            · rw [mix_out hm] at e; exact F.new x o e
        have F' := F2.perm pm.symm
        have ha1 : H1 a = some (.ins C' dx fvs) := by
          have ma : a ∈ fp := pm.symm.subset (by simp)
          exact kp a _ ma hH
        rw [ha1] at hq
        cases hq
        have hpn : a ∉ dx :: fpr := by
          have : (a :: (dx :: fpr)).Nodup := by simpa using F'.nd
          exact (List.nodup_cons.mp this).1
        have hp : a ∈ fp := pm.symm.subset (by simp)
        have kp2 : ∀ x o, x ∈ dx :: fpr → H1 x = some o → upd H1 a (.ins C' dx (putF fld v fvs)) x = some o := fun x o m z => same_upd (fun y => by subst y; exact hpn m) z
        have r0 : Rep (nw H0 (mix Hf H1 f1)) v d.fz := by
          have r1 := q0.froz (fq := f1) (by intro x o e; cases e) fun x m => m
          refine r1.mono fun x o e => ?_
          by_cases hm : x ∈ f1
          · rw [mix_in hm] at e
            simp only [nw, (own1 x hm).2, Option.isNone_none, if_true, mix_in hm]
            exact e
          · rw [mix_out hm] at e; cases e
        have RN : RepF (nw H0 (mix Hf H1 f1)) (putF fld v fvs) (putFD fld d.fz ks) := (RF.mono (nw_mono sHn)).put r0
        obtain ⟨fp', O3, p3⟩ := w (upd H1 a (.ins C' dx (putF fld v fvs))) (.slf a C' (putFD fld d.fz ks)) [a, dx] (fun x o m z => kp2 x o (List.mem_cons_of_mem _ m) z) (.slf upd_same (kp2 dx _ List.mem_cons_self hdx) (RN.mono nw_le))
        refine ⟨.ref a, h0, a, C', dx, fvs, rfl, ha1, c, na, by rw [RF.length]; exact hlen, pk σ _ ⟨_, fp', O3, F2.wrote hp ?_ ?_, n.set (fun d' z => by cases z; exact (fun y => nomatch y)), a, C', dx, _, _, h0, ?_, upd_same, RN⟩⟩
        · exact (p3.nodup_iff).mpr (by simpa using F'.nd)
        · intro x m
          exact F'.own x (by simpa using p3.subset m)
        · rw [List.getElem?_set_self (List.getElem?_eq_some_iff.mp hx).1]
theorem fsn_one (h : PS X st (TSN H0 Ex SN g)) : FSN X H0 Ex [st] g := by
  refine ⟨PSs.pre (pss_one h) ?_⟩
  rintro D σ H ⟨Hs, ρ, S, p⟩
  exact ⟨Hs, ρ, S, p⟩
theorem fsn_cons (h1 : PS X st (TSN H0 Ex SN g1)) (h2 : FSN X H0 Ex sts g2) : FSN X H0 Ex (st :: sts) (gSeq g1 g2) := by
  refine ⟨PSs.pre (pss_cons h1 h2.go) ?_⟩
  rintro D σ H ⟨Hs, ρ, S, p⟩
  refine ⟨Hs, ρ, S, ?_⟩
  unfold gSeq at p
  cases e : g1 ρ with
  | nx ρ' => rw [e] at p; exact fun σ' H' S' => ⟨Hs, ρ', S', p⟩
  | rt d => rw [e] at p; exact p.elim
  | bk ρ' => rw [e] at p; exact p.elim
  | ct ρ' => rw [e] at p; exact p.elim
  | exc C => rw [e] at p; exact p
  | bad => rw [e] at p; exact p.elim
end
def spN (C : Addr) (n : Nat) (F : Addr → List D → Res (List (Str × D))) : Sp := fun vs H Q E => ∃ Hs us ds x dx, vs = .ref x :: us ∧ ds.length = n ∧ x ≠ dx ∧ H x = some (.ins C dx []) ∧ H dx = some (.own x) ∧ Hs x = none ∧ Hs dx = none ∧ Same Hs H ∧ Reps Hs us ds ∧ (∀ d ∈ ds, d.tag = .f) ∧
  match F x ds with
  | .ok fs => ∀ H' Hg dy fvs, Fine Hs (less2 H x dx) Hg H' [x, dy] → H' x = some (.ins C dy fvs) → H' dy = some (.own x) → RepF (nw (less2 H x dx) Hg) fvs fs → Q .non H'
  | .exc Cx => ∀ H', Same (less2 H x dx) H' → E Cx none H'
  | .bad => False
theorem initN_body {P : Program} {w : World} {K : PySem.W.Frag} {mg : Str → Option Value} {base : Heap} {x qual : Str} {st : Stmt} {f C : Addr} {fd : FuncData} {N ps : List Str} {k n : Nat} {g : FEnv → FOut} (U : Fun K x qual st f fd) (S : FnScope N ps (defScope st)) (hn : ps.length = n + 1)
    (hbody : ∀ (cdv : Value) (A : Around) (outer : List Env) (s : Shared) (H H0 : Hp) (E : XK) (Ex : Value → Prop), (∀ C H', Ex C → Same H0 H' → E C none H') → Room k (A.deeper (envOfC qual (defScope st) s.heap.objs.size f cdv)) →
      FN0 (cxm P w K mg base N qual (defScope st) f cdv A outer s H E) H0 Ex (defBody st) g) :
    FnOk P w K mg base (CXm P w) (k + 1) f fd ps (spN C n (initF C N.length g)) := by
  refine Fun.okX U S (fun vs H Q E h => ?_) (fun cdv A outer s H vs Q E hr h => ?_)
  · obtain ⟨Hs, us, ds, a, da, rfl, hl, _, _, _, _, _, _, R, _⟩ := h
    rw [List.length_cons, R.length, hl, hn]
  · obtain ⟨Hs, us, ds, a, da, rfl, hl, hne, ha, hda, sa, sda, sH, R, ht, p⟩ := h
    have hg := hbody cdv A outer s H (less2 H a da) E (fun C' => initF C N.length g a ds = .exc C') (fun C' H' e sm => by rw [e] at p; exact p H' sm) hr
    refine ⟨_, hg.go, Hs, some (.slf a C []) :: (ds.map some ++ List.replicate (N.length - (ds.length + 1)) none), ⟨⟨Hs, [a, da] ++ [], ?_, ?_, ?_, sH, less2_same, Same.refl _, fun b o e => .inl ⟨o, e⟩⟩, ?_⟩, ?_⟩
    · have := own_frozen (Hs := Hs) (H := H) (N.length - (ds.length + 1)) R ht
      unfold L2.start
      rw [List.length_cons, R.length]
      exact .cons (.slf ha hda .nil) this
    · simp [hne]
    · intro b m
      simp at m
      rcases m with rfl | rfl
      · exact ⟨sa, by unfold less2; rw [if_pos (.inl rfl)]⟩
      · exact ⟨sda, by unfold less2; rw [if_pos (.inr rfl)]⟩
    · intro d m
      rcases List.mem_cons.mp m with z | m
      · cases z; exact fun y => nomatch y
      rcases List.mem_append.mp m with m | m
      · obtain ⟨d', m', e⟩ := List.mem_map.mp m
        cases e
        rw [ht d m']; decide
      · rw [List.mem_replicate] at m; cases m.2
    · cases eg : g (some (D.slf a C []) :: (ds.map some ++ List.replicate (N.length - (ds.length + 1)) none)) with
      | nx ρ' =>
        have e1 : initF C N.length g a ds = (match ρ'[0]? with
          | some (some (D.slf y C' fs)) => if y = a ∧ C' = C then .ok fs else .bad
          | _ => .bad) := by
            unfold initF
            rw [eg]
            try rfl
        rw [e1] at p
        split at p
        · rename_i fs hq
          split at hq
          · rename_i y C' fs' hy
            split at hq
            · rename_i hc
              obtain ⟨rfl, rfl⟩ := hc
              cases hq
              rintro σ' H' ⟨Hf, fp, O, F, nB, a', C2, dy, fvs, ks, h0, hx, hH, RF⟩
              rw [hy] at hx
              cases hx
              obtain ⟨pp, fpx, fpr, e', rq, pm, w⟩ := O.write nB F.nd hy rfl
              cases rq with
              | slf hq' hdx R' =>
                rw [hH] at hq'
                cases hq'
                exact p H' Hf _ _ ((F.perm pm.symm).subl (List.sublist_append_left _ _)) hH hdx RF
            · cases hq
          · cases hq
        · rename_i Cx hq
          split at hq
          · split at hq <;> cases hq
          · cases hq
        · exact p.elim
      | exc C' => show initF C N.length g a ds = .exc C'; unfold initF; rw [eg]
      | rt d => have e1 : initF C N.length g a ds = .bad := by unfold initF; rw [eg]
                rw [e1] at p; exact p.elim
      | bk ρ' => have e1 : initF C N.length g a ds = .bad := by unfold initF; rw [eg]
                 rw [e1] at p; exact p.elim
      | ct ρ' => have e1 : initF C N.length g a ds = .bad := by unfold initF; rw [eg]
                 rw [e1] at p; exact p.elim
      | bad => have e1 : initF C N.length g a ds = .bad := by unfold initF; rw [eg]
               rw [e1] at p; exact p.elim
structure MakN (P : Program) (w : World) (K : PySem.W.Frag) (mg : Str → Option Value) (base : Heap) (x : Str) (C : Addr) (n : Nat) (F : Addr → List D → Res (List (Str × D))) (k : Nat) : Prop where
  ex : ∃ f fd ps, FnOk P w K mg base (CXm P w) k f fd ps (spN C n F) ∧ mg x = some (.ref C) ∧ Mk K C f ∧ Binds K fd ps []
theorem mkN_ok {P : Program} {w : World} {K : PySem.W.Frag} {mg : Str → Option Value} {base : Heap} {x qual : Str} {C : Addr} {st : Stmt} {N ps : List Str} {k n : Nat} {g : FEnv → FOut} (hU : ∃ f fd, Fun K "__init__" qual st f fd ∧ mg x = some (.ref C) ∧ Mk K C f ∧ Binds K fd ps []) (S : FnScope N ps (defScope st)) (hn : ps.length = n + 1)
    (hbody : ∀ (f : Addr) (cdv : Value) (A : Around) (outer : List Env) (s : Shared) (H H0 : Hp) (E : XK) (Ex : Value → Prop), (∀ C H', Ex C → Same H0 H' → E C none H') → Room k (A.deeper (envOfC qual (defScope st) s.heap.objs.size f cdv)) →
      FN0 (cxm P w K mg base N qual (defScope st) f cdv A outer s H E) H0 Ex (defBody st) g) : MakN P w K mg base x C n (initF C N.length g) (k + 1) := by
  obtain ⟨f, fd, U, hm, M, hb⟩ := hU
  exact ⟨f, fd, ps, initN_body U S hn fun cdv A outer s H H0 E Ex hE hr => hbody f cdv A outer s H H0 E Ex hE hr, hm, M, hb⟩
end Mi
namespace Mi
open PySem PySem.Spec L2
open PyProof.Rows hiding St
def tSpoil (i ir : Nat) (u : TS) : TS := fun D σ H => ∃ pG g0 g1 g2 g3 r0 rs0 rows l0 l2 l3, σ[i]? = some (some (.ref pG)) ∧ ir < σ.length ∧ i ≠ ir ∧ ([pG, g0, r0, g1, g2, g3] ++ rows).Nodup ∧ H pG = some (.lst [.ref g0, .ref g1, .ref g2, .ref g3]) ∧ H g0 = some (.lst (.ref r0 :: rs0)) ∧ H r0 = some (.lst l0) ∧ l0.length < sizeLine ∧ H g1 = some (.lst (rows.map V.ref)) ∧ rows.length < sizeLine ∧
  (∀ r ∈ rows, ∃ l, H r = some (.lst l) ∧ l.length < sizeLine) ∧ H g2 = some (.lst l2) ∧ l2.length < sizeLine ∧ H g3 = some (.lst l3) ∧
  ∀ σ' H', σ'.length = σ.length → (∀ j, j ≠ ir → σ'[j]? = σ[j]?) → (∀ x o, H x = some o → x ∉ r0 :: g1 :: g2 :: g3 :: rows → H' x = some o) → u D σ' H'
section
variable {X : Cx}
theorem ps_app {o e : Expr} {to te : TE} {p2 p3 pos : Pos} (ho : PE X o to) (he : PE X e te)
    (hbase : attributeBase o "append" X.env (eval o X.env) = eval o X.env) (hfew : ((backTo p3 (starEach [e] X.env)).all (fun x => !x.1) && (backToKw p3 (keywordEach [] X.env)).all (fun x => x.1.isSome) && decide (([e] : List Expr).length + ([] : List Keyword).length + (if ([] : List Keyword).isEmpty then 0 else 1) < 30)) = true)
    (hline : (p2.endLine == p3.line) = true) (hplain : (backTo p3 (starEach [] X.env)).any (·.1) = false) (hs1 : starEach [e] X.env = (false, eval e X.env) :: starEach [] X.env)
    (hsw : swapsWith (.Call (.Attribute o "append" p2) [e] [] p3) none pos.line X.env = pure false) : PS X (.Expr (.Call (.Attribute o "append" p2) [e] [] p3) pos) (tDrop (tBM X.K "list" rAppend to (tCons te tNil))) :=
  ps_expr (pe_bm PySem.F.plainAttrs_list PySem.F.slot_list_append PySem.F.type_list_append mt_append ho (pa_cons he pa_nil hs1) hbase hfew hline hs1 hplain) hsw
theorem ps_clr {o : Expr} {to : TE} {p2 p3 pos : Pos} (ho : PE X o to) (hbase : attributeBase o "clear" X.env (eval o X.env) = eval o X.env) (hline : (p2.endLine == p3.line) = true)
    (hsw : swapsWith (.Call (.Attribute o "clear" p2) [] [] p3) none pos.line X.env = pure false) : PS X (.Expr (.Call (.Attribute o "clear" p2) [] [] p3) pos) (tDrop (tBM0 X.K "list" rClear to)) :=
  ps_expr (pe_bm0 PySem.F.plainAttrs_list PySem.F.slot_list_clear PySem.F.type_list_clear mt_clear ho hbase hline) hsw
theorem pss_spoil {i ir : Nat} {s1 s2 s3 s4 s5 : Stmt} {rest : List Stmt} {u : TS}
    (h1 : PS X s1 (tDrop (tBM X.K "list" rAppend (tOp (rIxL X.K) (tOp (rIxL X.K) (tVar i) (tC (.int 0))) (tC (.int 0))) (tCons (tC (.int 7)) tNil))))
    (h2 : PS X s2 (tFor (iList X.K (tOp (rIxL X.K) (tVar i) (tC (.int 1)))) (gName ir) (tDrop (tBM X.K "list" rAppend (tVar ir) (tCons (tC (.int 7)) tNil)))))
    (h3 : PS X s3 (tDrop (tBM X.K "list" rAppend (tOp (rIxL X.K) (tVar i) (tC (.int 1))) (tCons (tLst tNil) tNil))))
    (h4 : PS X s4 (tDrop (tBM X.K "list" rAppend (tOp (rIxL X.K) (tVar i) (tC (.int 2))) (tCons (tC (.int 9)) tNil))))
    (h5 : PS X s5 (tDrop (tBM0 X.K "list" rClear (tOp (rIxL X.K) (tVar i) (tC (.int 3)))))) (hr : PSs X rest u) : PSs X (s1 :: s2 :: s3 :: s4 :: s5 :: rest) (tSpoil i ir u) := by
  refine PSs.pre (pss_cons h1 (pss_cons h2 (pss_cons h3 (pss_cons h4 (pss_cons h5 hr))))) ?_
  rintro D σ H ⟨pG, g0, g1, g2, g3, r0, rs0, rows, l0, l2, l3, hσ, hil, hir, nd, hG, h0, hr0, z0, hg1, z1, hrows, hg2, z2, hg3, k⟩
  simp only [List.cons_append, List.nil_append, List.nodup_cons, List.mem_cons, not_or] at nd
  obtain ⟨⟨nG0, nGr, nG1, nG2, nG3, nGR⟩, ⟨n0r, n01, n02, n03, n0R⟩, ⟨nr1, nr2, nr3, nrR⟩, ⟨n12, n13, n1R⟩, ⟨n23, n2R⟩, n3R, ndR⟩ := nd
  -- given[0][0].append(7)
  refine ⟨.ref pG, hσ, pG, _, 0, .ref g0, rfl, rfl, SqL.of hG, rfl, g0, _, 0, .ref r0, rfl, rfl, SqL.of h0, ?_, .inl ⟨rfl, l0, SqL.of hr0⟩, r0, l0, .int 7, rfl, rfl, hr0, z0, ?_⟩
  · show (ixN (V.ref r0 :: rs0).length 0).bind _ = _
    have : ixN (V.ref r0 :: rs0).length 0 = some 0 := by
      unfold ixN
      rw [if_pos (by omega), if_pos (by simp)]
      rfl
    rw [this]
    rfl
  generalize hH1 : upd H r0 (.lst (l0 ++ [.int 7])) = H1
  have e1 : ∀ x o, H x = some o → x ≠ r0 → H1 x = some o := fun x o e n => by rw [← hH1, upd_ne n]; exact e
  have hG1 := e1 _ _ hG nGr
  have hg11 := e1 _ _ hg1 (Ne.symm nr1)
  have hg21 := e1 _ _ hg2 (Ne.symm nr2)
  have hg31 := e1 _ _ hg3 (Ne.symm nr3)
  -- the loop
  refine ⟨.ref pG, hσ, pG, _, 1, .ref g1, rfl, rfl, SqL.of hG1, rfl, g1, rfl, ⟨_, SqL.of hg11⟩, ?_⟩
  refine ⟨fun j m σ' H' => m = rows.length - j ∧ j ≤ rows.length ∧ σ'.length = σ.length ∧ (∀ t, t ≠ ir → σ'[t]? = σ[t]?) ∧ (∀ x o, H1 x = some o → x ∉ rows → H' x = some o) ∧ ∀ r ∈ rows.drop j, H' r = H1 r, ⟨rows.length, by simp, Nat.zero_le _, rfl, fun _ _ => rfl, fun _ _ e _ => e, fun _ _ => rfl⟩, ?_⟩
  rintro j m σ' H' ⟨rfl, hj, hlσ, aσ, kH, kR⟩
  have hσ' : σ'[i]? = some (some (.ref pG)) := by rw [aσ i hir]; exact hσ
  have hG' := kH _ _ hG1 nGR
  have hg1' := kH _ _ hg11 n1R
  by_cases hlt : j < rows.length
  · refine .inr ⟨⟨_, .ref rows[j], SqL.of hg1', by simp [hlt]⟩, fun σ2 H2 => σ2.length = σ.length ∧ (∀ t, t ≠ ir → σ2[t]? = σ[t]?) ∧ (∀ x o, H1 x = some o → x ∉ rows → H2 x = some o) ∧ ∀ r ∈ rows.drop (j + 1), H2 r = H1 r, fun σ2 H2 ⟨a1, a2, a3, a4⟩ => ⟨rows.length - (j + 1), by omega, rfl, hlt, a1, a2, a3, a4⟩, ?_⟩
    rintro x H'' ⟨rfl, hx⟩
    have hx := hx _ (SqL.of hg1')
    simp only [List.getElem?_map, List.getElem?_eq_getElem hlt, Option.map_some, Option.some.injEq] at hx
    subst hx
    have hmem : rows[j] ∈ rows := List.getElem_mem hlt
    have hdrop : rows.drop j = rows[j] :: rows.drop (j + 1) := List.drop_eq_getElem_cons hlt
    have hnd : rows[j] ∉ rows.drop (j + 1) := by
      have : (rows.drop j).Nodup := ndR.sublist (List.drop_sublist _ _)
      rw [hdrop] at this
      exact (List.nodup_cons.mp this).1
    have hrj : H'' rows[j] = H1 rows[j] := kR _ (by rw [hdrop]; exact List.mem_cons_self)
    obtain ⟨l, hl, hz⟩ := hrows _ hmem
    have hl1 : H1 rows[j] = some (.lst l) := e1 _ _ hl fun z => nrR (by rw [← z]; exact hmem)
    have hl2 : H'' rows[j] = some (.lst l) := by rw [hrj]; exact hl1
    refine ⟨.ref rows[j], ?_, .inl ⟨rfl, l, SqL.of hl2⟩, rows[j], l, .int 7, rfl, rfl, hl2, hz, by rw [List.length_set]; exact hlσ, fun t ht => by rw [List.getElem?_set_ne (Ne.symm ht)]; exact aσ t ht, fun x o e hx => ?_, fun r hr => ?_⟩
    · exact List.getElem?_set_self (by rw [hlσ]; exact hil)
    · rw [upd_ne (fun z => hx (by rw [z]; exact hmem))]; exact kH x o e hx
    · rw [upd_ne (fun z => hnd (by rw [← z]; exact hr))]
      exact kR r (by rw [hdrop]; exact List.mem_cons_of_mem _ hr)
  · refine .inl ⟨⟨_, SqL.of hg1', by rw [List.length_map]; omega⟩, ?_⟩
    have hg2' := kH _ _ hg21 n2R
    have hg3' := kH _ _ hg31 n3R
    -- given[1].append([])
    refine ⟨.ref pG, hσ', pG, _, 1, .ref g1, rfl, rfl, SqL.of hG', rfl, .inl ⟨rfl, _, SqL.of hg1'⟩, by decide, fun p hp => ⟨g1, rows.map V.ref, .ref p, rfl, rfl, ?_, by rw [List.length_map]; exact z1, ?_⟩⟩
    · rw [upd_ne (ne_of_none hg1' hp)]; exact hg1'
    generalize hH3 : upd (upd H' p (.lst [])) g1 (.lst (rows.map V.ref ++ [.ref p])) = H3
    have e3 : ∀ x o, H' x = some o → x ≠ g1 → H3 x = some o := fun x o e n => by
      rw [← hH3, upd_ne n, upd_ne (ne_of_none e hp)]; exact e
    have hG3 := e3 _ _ hG' nG1
    have hg23 := e3 _ _ hg2' (Ne.symm n12)
    have hg33 := e3 _ _ hg3' (Ne.symm n13)
    -- given[2].append(9)
    refine ⟨.ref pG, hσ', pG, _, 2, .ref g2, rfl, rfl, SqL.of hG3, rfl, .inl ⟨rfl, _, SqL.of hg23⟩, g2, _, .int 9, rfl, rfl, hg23, z2, ?_⟩
    generalize hH4 : upd H3 g2 (.lst (l2 ++ [.int 9])) = H4
    have e4 : ∀ x o, H3 x = some o → x ≠ g2 → H4 x = some o := fun x o e n => by rw [← hH4, upd_ne n]; exact e
    have hG4 := e4 _ _ hG3 nG2
    have hg34 := e4 _ _ hg33 (Ne.symm n23)
    -- given[3].clear()
    refine ⟨.ref pG, hσ', pG, _, 3, .ref g3, rfl, rfl, SqL.of hG4, rfl, .inl ⟨rfl, _, SqL.of hg34⟩, g3, _, rfl, rfl, hg34, ?_⟩
    refine k σ' _ hlσ aσ fun x o e hx => ?_
    simp only [List.mem_cons, not_or] at hx
    obtain ⟨x1, x2, x3, x4, x5⟩ := hx
    rw [upd_ne x4]
    exact e4 _ _ (e3 _ _ (kH _ _ (e1 _ _ e x1) x5) x2) x3
end
end Mi
namespace Mi
open PySem PySem.Spec L2
open PyProof.Rows hiding St
section
variable {X : Cx} {CX : CXT} {k : Nat} {f C : Addr} {fd : FuncData} {ps : List Str} {sp : Sp} {dvs : List V} {ds : List Value} {E : XK} {x : Str} {p pos : Pos} {e : Expr} {es : List Expr} {t : TA}
theorem pe_makeAt (σ : St) (M : Mk X.K C f) (F : FnOk X.prog X.w X.K X.mg X.base CX k f fd ps sp) (hr : Room (k + 1) X.A) (hg : Gl X x) (hm : X.mg x = some (.ref C)) (hb : Binds X.K fd ps ds) (hd : Vals dvs ds)
    (hx : ∀ (pins : List (Addr × Obj)) (H : Hp) (s : Shared) (e : Value) (s' : Shared), Inv X pins σ H s → CX X.stack H s E e s' → X.xe e s')
    (ha : PA X (e :: es) t) (hdb : (x == ("__debug__" : Str)) = false) (he : starEach (e :: es) X.env = (false, eval e X.env) :: starEach es X.env) (hpl : (backTo pos (starEach es X.env)).any (·.1) = false) :
    PE X (.Call (.Name x p) (e :: es) [] pos) (fun σ' H Q => σ' = σ ∧ tMake C sp dvs E t σ' H Q) := by
  rintro pins s σ' H Q I ⟨rfl, h⟩
  refine wpAny_Call_Name_kw (ld_glob I hg hm ?_ hdb)
  exact PySem.W.callWith_K (h₀ := X.base) I.ok.mod.kin M.kp (thn (ha pos pins s σ' H _ I h) fun us s1 ⟨vs, H1, I1, r, q⟩ => ⟨I1.kIn, run_make M F hr hb hd hx I1 r q⟩) he hpl
end
def tTryN (H0 : Hp) (i m ie : Nat) (C xC : Addr) (In : Addr → List D → Res (List (Str × D))) (fE : FEnv → Res D) : TS := fun D σ H => ∃ Hs ρ Hf fp pG u0 u1 u2 u3 xs, Own Hf H fp σ ρ ∧ Fine Hs H0 Hf H fp ∧ noB ρ ∧ ie < ρ.length ∧ σ[i]? = some (some (.ref pG)) ∧ H pG = some (.lst [u0, u1, u2, u3]) ∧ Reps (mix Hf H fp) [u0, u1, u2, u3] xs ∧ (∀ d ∈ xs, d.tag = .f) ∧
  match everyF In xs with
  | .exc c => (c = .ref xC ∨ c = .int (xC : Int) 0) ∧ ∃ b, fE ((frzAll ρ).set ie (some (.exc (.ref xC)))) = .ok (.bl b) ∧ ∀ H6, Same Hf H6 → Same H0 H6 → D.rt (.bl b) H6
  | .ok fs => ∀ x dy fvs Hg H', H x = none → Fine (mix Hf H fp) H Hg H' [x, dy] → H' x = some (.ins C dy fvs) → RepF (nw H Hg) fvs fs → D.nx (σ.set m (some (.ref x))) H'
  | .bad => False
section
variable {X : Cx} {H0 : Hp} {E1 : Expr} {fE : FEnv → Res D} {i m ie k : Nat} {n cn y x : Str} {W C xC : Addr} {In : Addr → List D → Res (List (Str × D))} {p1 p2 p3 p7 p8 pos pos' q1 : Pos} {e0 : Expr} {es : List Expr}
theorem ps_tryN (hW : X.mg cn = some (.ref W)) (hk : PySem.W.exmOne X.K (.ref xC) (.ref W) = some true) (hN : X.N.Nodup) (hie : X.N[ie]? = some n) (hl : X.env.scope.names.lookup n = some .local)
    (hgC : Gl X cn) (hst : X.stack = X.env :: X.outer) (hfl : X.env.frame = some X.env.locals) (hex : X.ex = [])
    (hm : X.N[m]? = some x) (hxl : Loc X.env.scope x) (c : MakN X.prog X.w X.K X.mg X.base y C 4 In k) (hr : Room (k + 1) X.A) (hg : Gl X y)
    (ha : ∀ (E' : Value → Shared → Prop) (pn' : List (Addr × Obj)), PA (Cx.att X E' pn') (e0 :: es) (tCons (tOp (rIxL X.K) (tVar i) (tC (.int 0))) (tCons (tOp (rIxL X.K) (tVar i) (tC (.int 1))) (tCons (tOp (rIxL X.K) (tVar i) (tC (.int 2))) (tCons (tOp (rIxL X.K) (tVar i) (tC (.int 3))) tNil)))))
    (hh : ∀ (a : Addr) (E' : Value → Shared → Prop), FE (Cx.han X a E') H0 (fun _ => False) E1 fE)
    (hs : swapsWith (.Call (.Name y p2) (e0 :: es) [] p3) (some (.Name x pos')) q1.line X.env = pure false) (hf : X.fn x = true ∨ X.env.scope.names.lookup x = some .local)
    (hdC : (cn == ("__debug__" : Str)) = false) (hdb : (y == ("__debug__" : Str)) = false) (he : starEach (e0 :: es) X.env = (false, eval e0 X.env) :: starEach es X.env) (hpl : (backTo p3 (starEach es X.env)).any (·.1) = false) :
    PS X (.Try [.Assign [.Name x pos'] (.Call (.Name y p2) (e0 :: es) [] p3) q1] [.ExceptHandler (some (.Name cn p1)) (some n) [.Return (some E1) p8] p7] [] [] pos) (tTryN H0 i m ie C xC In fE) := by
  intro pins s σ H En I h
  obtain ⟨Hs, ρ, Hf, fp, pG, u0, u1, u2, u3, xs, Ow, F, nB, hieρ, hσ, hG, RX, hxt, h⟩ := h
  obtain ⟨f, fd, ps, G, hmC, hmk, hb⟩ := c.ex
  refine wpAny_Try_except ?_
  let Eh : Value → Shared → Prop := fun e s₁ => wpAny (model X.prog X.w) X.A (noteFrame e X.env) (fun _ s₂ => wpAny (model X.prog X.w) X.A (setFlight e none) (fun _ s₃ => wpAny (model X.prog X.w) X.A (handleBy e X.env [.ExceptHandler (some (.Name cn p1)) (some n) [.Return (some E1) p8] p7]) (SP X pins En) X.xe s₃) X.xe s₂) X.xe s₁
  let EX : XK := fun C' _ H' => everyF In xs = .exc C' ∧ Same H H'
  have hPa : ∀ (pins1 : List (Addr × Obj)) (H1 : Hp) (s1 : Shared) (e : Value) (s' : Shared), Inv (Cx.att X Eh (X.pn ++ pins)) pins1 σ H1 s1 → CXm X.prog X.w X.stack H1 s1 EX e s' → Eh e s' := by
    intro pins1 H1 s1 e s' I1 hx
    obtain ⟨a, C', H', rfl, hos, bare, u, hok, ⟨oe, vs, T, oT, ts, x1, x2', x3, x4, x5, x6, x7, x8, x9, x10, x11, x12⟩, hev, sm⟩ := hx
    rw [hev] at h
    obtain ⟨hCC, b, hfE, hrt⟩ := h
    have x2 : oe.cls = .ref xC := XC.cls x2' hCC
    have I1 : Inv X pins σ H1 s1 := Inv.unatt I1
    have u : Un (frs X.stack) [] H1 H' s1.heap s'.heap := u
    have FF : s'.heap.FunFrames X.base X.stack := frames_un u (fun _ m => m) (fun b m => I1.stkFree b m) I1.stack
    show wpAny (model X.prog X.w) X.A (noteFrame (.ref a) X.env) _ X.xe s'
    have hsz : 1 < vs.size := (Array.getElem?_eq_some_iff.mp x4).1
    have h0 : vs[0]? = some vs[0] := Array.getElem?_eq_some_iff.mpr ⟨by omega, rfl⟩
    refine wpAny_looks_onW (base := PySem.W.hideAll s'.heap (a :: T :: frs X.stack)) (outer := X.outer) (L := X.env.locals) (cls := .ref xC) (a0 := vs[0]) (by rw [I1.ok.frames, hst]) hfl ⟨fun b o e => PySem.W.of_hideAll _ e, PySem.W.hideAll_none _ (by simp), ?_, oe, vs, T, oT, ts, x1, ⟨x2, h0⟩, x3, x4, PySem.W.hideAll_none _ (by simp), x5, x6, x7, x8⟩ fun h2' hh2 up2 => ?_
    · rw [← hst]
      exact PySem.W.funFrames_hide FF fun env he b hb => List.mem_cons_of_mem _ (List.mem_cons_of_mem _ (List.mem_filterMap.mpr ⟨env, he, hb⟩))
    refine wpAny_landsW (s := { s' with heap := h2' }) hh2 fun h3' fl3 up3 => ?_
    rw [← hst] at fl3
    have F3 : Fly s'.heap X.stack a T (.ref xC) h3' := ⟨vs[0], fl3, up2.trans up3⟩
    have I3 : Inv X pins σ H' { s' with heap := h3', toks := s'.toks } := fly_inv I1 hos bare u hok x9 x10 x11 x12 F3
    refine wpAny_handleBy_cons (codeAny_handlers_test ?_) (by intro q; cases q)
    refine ld_glob (X := Cx.han X a X.xe) (Inv.han I3) hgC hW ?_ hdC
    obtain ⟨st3, be3, ff3, tr3⟩ := id fl3
    obtain ⟨oe3, he3, hcl3⟩ := tr3.at.there
    refine (PySem.W.exm_one (M := model X.prog X.w) (e := a) I3.kIn (hcl3 ▸ (PySem.W.Looks.ld he3).andThen .now) hk).here ?_
    show codeAny _ _ (Code.handlers (.ref a) [.ExceptHandler none (some n) [.Return (some E1) p8] p7] X.env) _ _
    refine codeAny_handlers_suite_as ?_
    refine wpAny_setFlight_noneW (base := PySem.W.hideAll s'.heap (a :: T :: frs X.stack)) (l := X.stack) (s := { s' with heap := h3' }) st3 ff3 tr3.at fun h4' st4 ff4 tr4 k4 => ?_
    have F4 : Fly s'.heap X.stack a T (.ref xC) h4' := ⟨vs[0], ⟨st4, be3, ff4, tr4⟩, (up2.trans up3).trans fun b o e hn => ⟨o.slots, k4 b o e hn⟩⟩
    have I4 : Inv X pins σ H' { s' with heap := h4', toks := s'.toks } := fly_inv I1 hos bare u hok x9 x10 x11 x12 F4
    obtain ⟨oe4, vs4, T4, oT4, ts4, he4, ⟨hcl4, _⟩, hd4, _⟩ := id tr4
    have na : ∀ b o, s1.heap.get? b = some o → b ≠ a := fun b o e z => by rw [z, x11] at e; cases e
    have I5 : Inv X pins σ (upd H' a (.ext fun h => h.get? a = some oe4)) { s' with heap := h4', toks := s'.toks } := by
      refine Inv.adopt I4 x9 (fun o e => ?_) ?_ (fun x c e => ?_) (fun q m => ?_) ⟨he4, ⟨_, he4⟩, fun h1 h2 e k => k _ e⟩
      · obtain ⟨o', e'⟩ := I1.base.there a o e (by rw [hex]; simp)
        rw [x11] at e'; cases e'
      · obtain ⟨m, ⟨o, _, _, ho, _⟩, _⟩ := I1.loc
        exact (na _ _ ho).symm
      · obtain ⟨v, o, ho, _⟩ := I1.cell x c e
        exact na _ _ ho
      · exact na _ _ (I1.pin q m).1
    refine store_ok (X := Cx.han X a X.xe) (Inv.han I5) hN hie (.inl hl) (v := .ref a) rfl (fun s5 I6 => ?_) (.inr hl)
    have hHa : H a = none := by
      cases e : H a with
      | none => rfl
      | some o => have := sm a o e; rw [x9] at this; cases this
    have za : mix Hf H fp a = none := by
      cases e : mix Hf H fp a with
      | none => rfl
      | some o => have := mix_le F.fh a o e; rw [hHa] at this; cases this
    have s5' : Same H (upd H' a (.ext fun h => h.get? a = some oe4)) := fun b o e => by
      rw [upd_ne fun z => by rw [z, hHa] at e; cases e]; exact sm b o e
    have sz : Same (mix Hf H fp) (upd (mix Hf H fp) a (.ext fun h => h.get? a = some oe4)) := fun b o e => by
      rw [upd_ne fun z => by rw [z, za] at e; cases e]; exact e
    have S7 : SR (upd (mix Hf H fp) a (.ext fun h => h.get? a = some oe4)) H0 (upd H' a (.ext fun h => h.get? a = some oe4)) (σ.set ie (some (.ref a))) ((frzAll ρ).set ie (some (.exc (.ref xC)))) := by
      have O1 := (Own.frozAll F.fh Ow nB (fq := fp) fun a m => m).mono sz s5'
      refine SR.set (d := .exc (.ref xC)) (v := .ref a) ⟨_, [] ++ [], .cons (.fz (.exc upd_same fun h e => ⟨oe4, e, hcl4⟩) rfl) O1, List.nodup_nil, fun _ m => (nomatch m), fun b o e => ?_, F.zh.trans s5', Same.refl _, fun b o e => .inl ⟨o, e⟩⟩ (fun z => nomatch z) (by unfold frzAll; rw [List.length_map]; exact hieρ)
      by_cases hb : b = a
      · subst hb; rw [upd_same] at e ⊢; exact e
      · rw [upd_ne hb] at e ⊢; exact sm b o (mix_le F.fh b o e)
    refine thn ((pss_one (ps_ret (pos := p8) (hh a _).go)) pins s5 _ _ { nx := fun _ _ => False, rt := fun v H6 => En.rt v H6, bk := fun _ _ => False, ct := fun _ _ => False } (Inv.han (Inv.unhan I6 I4.ok)) ⟨_, _, [], S7, ?_⟩) fun f s6 hq => ?_
    · rw [hfE]
      intro v H6 S6
      have S6 : SR _ H0 H6 (some v :: σ.set ie (some (.ref a))) (some (.bl b) :: (frzAll ρ).set ie (some (.exc (.ref xC)))) := S6
      have hv := S6.head
      cases hv
      refine hrt H6 ?_ (let ⟨_, _, _, Z⟩ := S6; Z.zh)
      exact ((mix_same F.fh).trans sz).trans (let ⟨_, _, _, Z⟩ := S6; Z.sf.trans Z.fh)
    · cases f with
      | next => obtain ⟨_, _, _, q⟩ := hq; exact q.elim
      | brk => obtain ⟨_, _, _, q⟩ := hq; exact q.elim
      | cont => obtain ⟨_, _, _, q⟩ := hq; exact q.elim
      | ret r =>
        obtain ⟨v, σ6, H6, I8, rv, q⟩ := hq
        have I8 := Inv.unhan I8 I4.ok
        obtain ⟨m6, hn6, _⟩ := id I8.loc
        refine wpAny_nameGoes_keeps hl hn6 (by rw [I4.ok.kind]; rfl) fun h7 v7 hn7 hs7 => ?_
        have I9 := Inv.gone (tk := s6.toks + 1) I8 hn7 hs7
        exact ⟨v, _, H6, I9, rv, q⟩
  have hbody := pss_one (ps_set (X := Cx.att X Eh (X.pn ++ pins)) (pos := q1) (pos' := pos') hN hm hxl (pe_makeAt (X := Cx.att X Eh (X.pn ++ pins)) (E := EX) (dvs := []) (p := p2) σ hmk G hr hg hmC hb .nil hPa (ha Eh (X.pn ++ pins)) hdb he hpl) hs hf)
  refine wpAny_mono (hbody [] s σ H En (Inv.att I) ⟨rfl, .ref pG, hσ, pG, _, 0, u0, rfl, rfl, SqL.of hG, rfl, .ref pG, hσ, pG, _, 1, u1, rfl, rfl, SqL.of hG, rfl, .ref pG, hσ, pG, _, 2, u2, rfl, rfl, SqL.of hG, rfl, .ref pG, hσ, pG, _, 3, u3, rfl, rfl, SqL.of hG, rfl, ?_⟩) (fun f s1 q => ?_) fun _ _ z => z
  · intro a da ha' hda hne
    have fz : ∀ {b : Addr}, H b = none → mix Hf H fp b = none := fun {b} hb => by
      cases e : mix Hf H fp b with
      | none => rfl
      | some o => have := mix_le F.fh b o e; rw [hb] at this; cases this
    have sUp : Same H (upd (upd H da (.own a)) a (.ins C da [])) := fun b o e => by
      rw [upd_ne (ne_of_none e ha'), upd_ne (ne_of_none e hda)]; exact e
    have hless : less2 (upd (upd H da (.own a)) a (.ins C da [])) a da = H := by
      funext b
      unfold less2
      by_cases h1 : b = a ∨ b = da
      · rw [if_pos h1]
        rcases h1 with rfl | rfl
        · exact ha'.symm
        · exact hda.symm
      · rw [if_neg h1, upd_ne (fun z => h1 (.inl z)), upd_ne (fun z => h1 (.inr z))]
    have hnbad : everyF In xs ≠ .bad := fun z => by rw [z] at h; exact h.elim
    refine ⟨mix Hf H fp, [u0, u1, u2, u3], xs, a, da, rfl, by rw [← RX.length]; rfl, Ne.symm hne, upd_same, by rw [upd_ne hne]; exact upd_same, fz ha', fz hda, (mix_le F.fh).trans sUp, RX, hxt, ?_⟩
    rw [everyF_at hnbad a, hless]
    cases ef : everyF In xs with
    | bad => exact absurd ef hnbad
    | exc Cx => exact fun H' s => ⟨ef, s⟩
    | ok fs =>
      rw [ef] at h
      intro H' Hg dy fvs Fg hH' hdy RF
      exact ⟨rfl, h a dy fvs Hg H' ha' Fg hH' RF⟩
  · have q := SP.unatt q
    cases f with
    | next => exact wpAny_execs_nil q
    | ret v => exact q
    | brk => exact q
    | cont => exact q
end
end Mi
namespace Mi
open PySem PySem.Spec L2
open PyProof.Rows hiding St
def spoils : Tg → List D → Bool
  | .o, [.lst .o (.lst .o l0 :: _), .lst .o rows, .lst .o l2, .lst .o _] => decide (l0.length < 1000) && decide (rows.length < 1000) && decide (l2.length < 1000) && rows.all fun r => match r with
    | .lst .o l => decide (l.length < 1000)
    | _ => false
  | _, _ => false
def isX (xC : Addr) : Value → Bool
  | .ref c => decide (c = xC)
  | .int k t => decide (k = (xC : Int)) && decide (t = 0)
  | _ => false
def retB : Res D → FOut
  | .ok (.bl b) => .rt (.bl b)
  | _ => .bad
noncomputable def gNet (i m ie ir : Nat) (C xC : Addr) (In : Addr → List D → Res (List (Str × D))) (fE : FEnv → Res D) (fT : FEnv → Res Bool) (gr : FEnv → FOut) : FEnv → FOut := fun ρ => match ρ[i]? with
  | some (some (.lst t xs)) => if xs.length = 4 ∧ m < ρ.length ∧ ie < ρ.length ∧ ir < ρ.length ∧ t ≠ .b then (match everyF In (D.fzs xs) with
      | .exc c => if isX xC c = true then retB (fE ((frzAll ρ).set ie (some (.exc (.ref xC))))) else .bad
      | .ok fs => (match fT ((frzAll ρ).set m (some (.ins .f C fs))) with
        | .ok true => .rt (.bl false)
        | .ok false => if spoils t xs = true then rtOnly (gr (((ρ.set i none).set m (some (.ins .f C fs))).set ir none)) else .bad
        | _ => .bad)
      | .bad => .bad) else .bad
  | _ => .bad
theorem RepOs.refs {Hf H : Hp} : ∀ {fp us rows}, RepOs Hf H fp us rows → (rows.all fun r => match r with
    | .lst .o l => decide (l.length < 1000)
    | _ => false) = true → ∃ rs : List Addr, us = rs.map V.ref ∧ rs.Sublist fp ∧ ∀ r ∈ rs, ∃ l, H r = some (.lst l) ∧ l.length < 1000 := by
  intro fp us rows hc
  induction rows generalizing fp us with
  | nil => intro _; cases hc; exact ⟨[], rfl, .slnil, fun _ m => nomatch m⟩
  | cons d rows ih =>
    intro h
    cases hc with
    | cons q r =>
      simp only [List.all_cons, Bool.and_eq_true] at h
      obtain ⟨h1, h2⟩ := h
      obtain ⟨rs, e, s, k⟩ := ih r h2
      split at h1
      · rename_i l
        cases q with
        | fz _ z => cases z
        | lst hq R =>
          rename_i a xs' fp'
          refine ⟨a :: rs, by rw [e]; rfl, ?_, fun r m => ?_⟩
          · rw [List.cons_append]
            exact List.Sublist.cons_cons _ (s.trans (List.sublist_append_right _ _))
          · rcases List.mem_cons.mp m with rfl | m
            · exact ⟨_, hq, by rw [R.length]; simpa using h1⟩
            · exact k r m
      · cases h1
theorem set_of {α : Type} {σ τ : List α} {ir : Nat} (hl : σ.length = τ.length) (h : ∀ j, j ≠ ir → σ[j]? = τ[j]?) (hi : ir < τ.length) : ∃ w, σ = τ.set ir w := by
  have hi' : ir < σ.length := by rw [hl]; exact hi
  refine ⟨σ[ir], List.ext_getElem? fun j => ?_⟩
  by_cases hj : j = ir
  · subst hj
    rw [List.getElem?_set_self hi]
    simp [hi']
  · rw [List.getElem?_set_ne (Ne.symm hj)]; exact h j hj
section
variable {X : Cx} {Ex : Value → Prop} {H0 : Hp}
theorem fss_net {i m ie ir : Nat} {C xC : Addr} {In : Addr → List D → Res (List (Str × D))} {fE : FEnv → Res D} {fT : FEnv → Res Bool} {gr : FEnv → FOut} {st s1 s2 s3 s4 s5 : Stmt} {rest : List Stmt} {T : Expr} {j : Nat} {q1 q2 q3 : Pos}
    (him : i ≠ m) (hii : i ≠ ir) (hmi : m ≠ ir)
    (ht : PS X st (tTryN H0 i m ie C xC In fE)) (hT : FT X H0 Ex T fT)
    (h1 : PS X s1 (tDrop (tBM X.K "list" rAppend (tOp (rIxL X.K) (tOp (rIxL X.K) (tVar i) (tC (.int 0))) (tC (.int 0))) (tCons (tC (.int 7)) tNil))))
    (h2 : PS X s2 (tFor (iList X.K (tOp (rIxL X.K) (tVar i) (tC (.int 1)))) (gName ir) (tDrop (tBM X.K "list" rAppend (tVar ir) (tCons (tC (.int 7)) tNil)))))
    (h3 : PS X s3 (tDrop (tBM X.K "list" rAppend (tOp (rIxL X.K) (tVar i) (tC (.int 1))) (tCons (tLst tNil) tNil))))
    (h4 : PS X s4 (tDrop (tBM X.K "list" rAppend (tOp (rIxL X.K) (tVar i) (tC (.int 2))) (tCons (tC (.int 9)) tNil))))
    (h5 : PS X s5 (tDrop (tBM0 X.K "list" rClear (tOp (rIxL X.K) (tVar i) (tC (.int 3)))))) (hr : FSs X H0 Ex rest gr) :
    FSs X H0 Ex (st :: .If T [.Return (some (.Constant (.bool false) j q1)) q2] [] q3 :: s1 :: s2 :: s3 :: s4 :: s5 :: rest) (gNet i m ie ir C xC In fE fT gr) := by
  refine ⟨PSs.pre (pss_cons ht (pss_cons (ps_if hT.go (pss_one (ps_ret pe_bl)) pss_nil) (pss_spoil h1 h2 h3 h4 h5 hr.go))) ?_⟩
  rintro En σ H ⟨Hs, ρ, ⟨S, n⟩, p⟩
  unfold gNet at p
  split at p
  case h_2 => exact p.elim
  rename_i t xs hx
  split at p
  case isFalse => exact p.elim
  rename_i hc
  obtain ⟨hx4, hmρ, hieρ, hirρ, tb⟩ := hc
  obtain ⟨Hf, fp, O, F⟩ := S
  have lσ : σ.length = ρ.length := O.length
  obtain ⟨v, fp1, fp2, hσ, hO, O', pm⟩ := O.take hx tb
  have F' := F.perm pm.symm
  -- the list handed in
  obtain ⟨pG, us, rfl, hG, RX, hsp⟩ : ∃ pG us, v = .ref pG ∧ H pG = some (.lst us) ∧ Reps (mix Hf H fp) us (D.fzs xs) ∧ (t = .o → ∃ fq, RepOs Hf H fq us xs ∧ fp1 = pG :: fq) := by
    cases hO with
    | fz h z =>
      cases h with
      | lst h R => exact ⟨_, _, rfl, F.fh _ _ h, (R.mono (mix_same F.fh)).fz, fun z' => by subst z'; cases z⟩
    | lst h R => exact ⟨_, _, rfl, h, R.froz F.fh fun b mb => pm.symm.subset (List.mem_append_left _ (List.mem_cons_of_mem _ mb)), fun _ => ⟨_, R, rfl⟩⟩
  obtain ⟨u0, u1, u2, u3, rfl⟩ : ∃ u0 u1 u2 u3, us = [u0, u1, u2, u3] := by
    have hl : us.length = 4 := by rw [RX.length, fzs_len]; exact hx4
    match us, hl with
    | [u0, u1, u2, u3], _ => exact ⟨u0, u1, u2, u3, rfl⟩
  have rtB : ∀ (b : Bool) (H6 : Hp), (∀ v H, SR Hs H0 H [some v] [some (.bl b)] → En.rt v H) → Same Hf H6 → Same H0 H6 → En.rt (.bl b) H6 := fun b H6 q s1 s2 => q _ _ ⟨Hf, [] ++ [], .cons (.fz .bl rfl) .nil, List.nodup_nil, fun _ mm => (nomatch mm), s1, s2, F.sf, F.new⟩
  refine ⟨Hs, ρ, Hf, fp, pG, u0, u1, u2, u3, D.fzs xs, O, F, n, hieρ, hσ, hG, RX, fzs_tag xs, ?_⟩
  cases ev : everyF In (D.fzs xs) with
  | bad => rw [ev] at p; exact p.elim
  | exc c =>
    rw [ev] at p
    have p : PostS Hs H0 Ex En (if isX xC c = true then retB (fE ((frzAll ρ).set ie (some (.exc (.ref xC))))) else .bad) := p
    by_cases hi : isX xC c = true
    · rw [if_pos hi] at p
      refine ⟨?_, ?_⟩
      · cases c with
        | ref c => left; simp only [isX, decide_eq_true_eq] at hi; rw [hi]
        | int k' t' => right; simp only [isX, Bool.and_eq_true, decide_eq_true_eq] at hi; rw [hi.1, hi.2]
        | _ => simp [isX] at hi
      · cases eE : fE ((frzAll ρ).set ie (some (.exc (.ref xC)))) with
        | exc _ => rw [eE] at p; exact p.elim
        | bad => rw [eE] at p; exact p.elim
        | ok d =>
          rw [eE] at p
          cases d with
          | bl b => exact ⟨b, rfl, fun H6 s1 s2 => rtB b H6 p s1 s2⟩
          | _ => exact p.elim
    · rw [if_neg hi] at p; exact p.elim
  | ok fs =>
    rw [ev] at p
    intro x dy fvs Hg H' hxn Fg hH' RF
    have p : PostS Hs H0 Ex En (match fT ((frzAll ρ).set m (some (.ins .f C fs))) with
        | .ok true => .rt (.bl false)
        | .ok false => if spoils t xs = true then rtOnly (gr (((ρ.set i none).set m (some (.ins .f C fs))).set ir none)) else .bad
        | _ => .bad) := p
    have sg : Same Hg (mix Hg H' [x, dy]) := mix_same Fg.fh
    have sz : Same (mix Hf H fp) (mix Hg H' [x, dy]) := Fg.sf.trans sg
    have hx2 : mix Hg H' [x, dy] x = some (.ins C dy fvs) := by rw [mix_in List.mem_cons_self]; exact hH'
    have S2 : SR (mix Hg H' [x, dy]) H0 H' (σ.set m (some (.ref x))) ((frzAll ρ).set m (some (.ins .f C fs))) := by
      have O1 := (Own.frozAll F.fh O n (fq := fp) fun a m => m).mono sz Fg.zh
      refine SR.set (d := .ins .f C fs) (v := .ref x) ⟨_, [] ++ [], .cons (.fz (.ins hx2 (RF.mono (nw_le.trans sg))) rfl) O1, List.nodup_nil, fun _ m => (nomatch m), mix_le Fg.fh, F.zh.trans Fg.zh, Same.refl _, fun b o e => .inl ⟨o, e⟩⟩ (fun z => nomatch z) (by unfold frzAll; rw [List.length_map]; exact hmρ)
    refine ⟨_, _, [], S2, ?_⟩
    cases eT : fT ((frzAll ρ).set m (some (.ins .f C fs))) with
    | bad => rw [eT] at p; exact p.elim
    | exc _ => rw [eT] at p; exact p.elim
    | ok b =>
      rw [eT] at p
      intro H1 S1
      have z1 : Same (mix Hg H' [x, dy]) H1 := let ⟨_, _, _, Z⟩ := (show SR _ H0 H1 _ _ from S1); Z.sf.trans Z.fh
      have z0 : Same H0 H1 := let ⟨_, _, _, Z⟩ := (show SR _ H0 H1 _ _ from S1); Z.zh
      have zf : Same Hf H1 := ((mix_same F.fh).trans sz).trans z1
      cases b with
      | true => exact rtB false H1 p zf z0
      | false =>
        have pz : PostS Hs H0 Ex En (if spoils t xs = true then rtOnly (gr (((ρ.set i none).set m (some (.ins .f C fs))).set ir none)) else .bad) := p
        by_cases hs : spoils t xs = true
        case neg => rw [if_neg hs] at pz; exact pz.elim
        rw [if_pos hs] at pz
        rw [if_neg Bool.false_ne_true]
        have kH1 : ∀ z o, z ∈ fp → H z = some o → H1 z = some o := fun z o mz e => z1 z o (sz z o (by rw [mix_in mz]; exact e))
        obtain ⟨l0, rs0, rows, l2, l3, rfl, rfl, hlens⟩ : ∃ l0 rs0 rows l2 l3, t = .o ∧ xs = [.lst .o (.lst .o l0 :: rs0), .lst .o rows, .lst .o l2, .lst .o l3] ∧ spoils .o [.lst .o (.lst .o l0 :: rs0), .lst .o rows, .lst .o l2, .lst .o l3] = true := by
          unfold spoils at hs
          split at hs
          · exact ⟨_, _, _, _, _, rfl, rfl, hs⟩
          · cases hs
        simp only [spoils, Bool.and_eq_true, decide_eq_true_eq] at hlens
        obtain ⟨⟨⟨n0, n1⟩, n2⟩, n3⟩ := hlens
        obtain ⟨fq, R, hfp1⟩ := hsp rfl
        cases R with
        | cons q0 R => cases R with
        | cons q1 R => cases R with
        | cons q2 R => cases R with
        | cons q3 R =>
          cases R
          cases q0 with
          | fz _ z => cases z
          | lst hg0 R0 => cases R0 with
          | cons qr0 R0 => cases qr0 with
          | fz _ z => cases z
          | lst hr0 Rr0 => cases q1 with
          | fz _ z => cases z
          | lst hg1 R1 => cases q2 with
          | fz _ z => cases z
          | lst hg2 R2 => cases q3 with
          | fz _ z => cases z
          | lst hg3 R3 =>
            rename_i g0 fz0 vs0 r0 x0 f0 g1 x1 f1 g2 x2 f2 g3 x3 f3
            clear RX hsp p hO
            obtain ⟨rs, rfl, srs, hrs⟩ := R1.refs n3
            have m1 : ∀ z, z ∈ fp1 → z ∈ fp := fun z mz => pm.symm.subset (List.mem_append_left _ mz)
            have sub : ([pG, g0, r0, g1] ++ (rs ++ [g2, g3])).Sublist fp1 := by
              rw [hfp1]
              simp only [List.cons_append, List.nil_append, List.append_assoc]
              refine .cons_cons _ (.cons_cons _ (.cons_cons _ ?_))
              refine List.Sublist.trans ?_ (List.sublist_append_right _ _)
              refine List.Sublist.trans ?_ (List.sublist_append_right _ _)
              refine .cons_cons _ (srs.append ?_)
              refine .cons_cons _ ?_
              refine List.Sublist.trans ?_ (List.sublist_append_right _ _)
              exact .cons_cons _ (List.nil_sublist _)
            have nd1 : fp1.Nodup := (List.nodup_append.mp F'.nd).1
            have pmW : ([pG, g0, r0, g1, g2, g3] ++ rs).Perm ([pG, g0, r0, g1] ++ (rs ++ [g2, g3])) := by
              show ([pG, g0, r0, g1] ++ ([g2, g3] ++ rs)).Perm _
              exact List.Perm.append_left _ List.perm_append_comm
            have ndW : ([pG, g0, r0, g1, g2, g3] ++ rs).Nodup := (pmW.nodup_iff).mpr (nd1.sublist sub)
            have inW : ∀ z, z ∈ [pG, g0, r0, g1, g2, g3] ++ rs → z ∈ fp := fun z mz => m1 z (sub.subset (pmW.subset mz))
            have inW2 : ∀ z, z ∈ r0 :: g1 :: g2 :: g3 :: rs → z ∈ fp1 := fun z mz => sub.subset (pmW.subset (by
              simp only [List.mem_cons, List.mem_append] at mz ⊢
              rcases mz with h | h | h | h | h <;> simp [h]))
            have sl : ∀ k : Nat, k < 1000 → k < sizeLine := fun k hk => Nat.lt_of_lt_of_le hk (by decide)
            refine ⟨pG, g0, g1, g2, g3, r0, vs0, rs, x0, x2, x3, ?_, by rw [List.length_set, lσ]; exact hirρ, hii, ndW, kH1 _ _ (inW _ (by simp)) hG, kH1 _ _ (inW _ (by simp)) hg0, kH1 _ _ (inW _ (by simp)) hr0, sl _ (by rw [Rr0.length]; exact n0), kH1 _ _ (inW _ (by simp)) hg1, sl _ ?_, fun r mr => ?_, kH1 _ _ (inW _ (by simp)) hg2, sl _ (by rw [R2.length]; exact n2), kH1 _ _ (inW _ (by simp)) hg3, ?_⟩
            · rw [List.getElem?_set_ne (Ne.symm him)]; exact hσ
            · have := R1.length; rw [List.length_map] at this; rw [this]; exact n1
            · obtain ⟨l, e1, e2⟩ := hrs r mr
              exact ⟨l, kH1 _ _ (inW _ (by simp [mr])) e1, sl _ e2⟩
            intro σ' H2 hl' ha' hk'
            rw [List.length_set] at hl'
            have nW : ∀ z, z ∉ fp1 → z ∉ r0 :: g1 :: g2 :: g3 :: rs := fun z hz mz => hz (inW2 z mz)
            obtain ⟨w, rfl⟩ := set_of (σ := σ') (τ := σ.set m (some (.ref x))) (by rw [List.length_set]; exact hl') ha' (by rw [List.length_set, lσ]; exact hirρ)
            have dj : ∀ z, z ∈ fp2 → z ∉ fp1 := fun z h2 h1 => (List.nodup_append.mp F'.nd).2.2 z h1 z h2 rfl
            have m2 : ∀ z, z ∈ fp2 → z ∈ fp := fun z mz => pm.symm.subset (List.mem_append_right _ mz)
            let Hn : Hp := fun z => if (H z).isNone = true then mix Hg H' [x, dy] z else Hf z
            have hnN : ∀ z, H z = none → Hn z = mix Hg H' [x, dy] z := fun z e => by show (if (H z).isNone = true then _ else _) = _; rw [e]; rfl
            have hnS : ∀ z o, H z = some o → Hn z = Hf z := fun z o e => by show (if (H z).isNone = true then _ else _) = _; rw [e]; rfl
            have sfn : Same Hf Hn := fun z o e => by rw [hnS z o (F.fh z o e)]; exact e
            have rIns : Rep Hn (.ref x) (.ins .f C fs) := by
              refine .ins (by rw [hnN x hxn]; exact hx2) (RF.mono fun z o e => ?_)
              unfold nw at e
              split at e
              · rename_i hz
                rw [hnN z (Option.isNone_iff_eq_none.mp hz)]
                exact sg z o e
              · cases e
            have n' : noB (ρ.set i none) := n.set fun _ z => nomatch z
            have O2 : Own Hn H2 fp2 σ (ρ.set i none) := O'.keep sfn n' fun z o mz e => hk' z o (kH1 z o (m2 z mz) e) (nW z (dj z mz))
            obtain ⟨fpa, O3, fpb, pa, sa⟩ := Own.put (.fz rIns rfl) O2 (i := m) (by rw [List.length_set]; exact hmρ)
            obtain ⟨fpc, O4, sc⟩ := Own.blank w O3 (i := ir)
            have pa : fpa.Perm fpb := by simpa using pa
            have inF : ∀ z, z ∈ fpc → z ∈ fp2 := fun z mz => sa.subset (pa.subset (sc.subset mz))
            refine ⟨Hs, _, ⟨⟨Hn, fpc, O4, ?_, ?_, ?_, ?_, ?_, ?_⟩, ?_⟩, ?_⟩
            · exact ((pa.nodup_iff).mpr ((List.nodup_append.mp F'.nd).2.1.sublist sa)).sublist sc
            · intro z mz
              obtain ⟨o, e⟩ := O.there z (m2 z (inF z mz))
              rw [hnS z o e]
              exact F.own z (m2 z (inF z mz))
            · intro z o e
              cases eH : H z with
              | none =>
                rw [hnN z eH] at e
                refine hk' z o (z1 z o e) (nW z fun mz => ?_)
                obtain ⟨o', e'⟩ := O.there z (m1 z mz)
                rw [eH] at e'; cases e'
              | some o' =>
                rw [hnS z o' eH] at e
                refine hk' z o (zf z o e) (nW z fun mz => ?_)
                rw [(F.own z (m1 z mz)).1] at e; cases e
            · intro z o e
              refine hk' z o (z0 z o e) (nW z fun mz => ?_)
              rw [(F.own z (m1 z mz)).2] at e; cases e
            · exact F.sf.trans sfn
            · intro z o e
              cases eH : H z with
              | none =>
                right
                cases e0 : H0 z with
                | none => rfl
                | some o' => have := F.zh z o' e0; rw [eH] at this; cases this
              | some o' => rw [hnS z o' eH] at e; exact F.new z o e
            · exact (n'.set fun d z => by cases z; exact fun y => nomatch y).set fun _ z => nomatch z
            · revert pz
              cases gr (((ρ.set i none).set m (some (.ins .f C fs))).set ir none) with
              | rt d => exact fun q => q
              | nx _ => exact fun q => q.elim
              | bk _ => exact fun q => q.elim
              | ct _ => exact fun q => q.elim
              | exc _ => exact fun q => q.elim
              | bad => exact fun q => q.elim
end
end Mi
namespace Mi
open PySem PySem.Spec L2
open PyProof.Rows hiding St
theorem RepOs.dropLast {Hf H : Hp} : ∀ {fp us es}, RepOs Hf H fp us es → ∃ fq fr, RepOs Hf H fq us.dropLast es.dropLast ∧ fq.Perm fr ∧ fr.Sublist fp := by
  intro fp us es hc
  induction es generalizing fp us with
  | nil => cases hc; exact ⟨[], [], .nil, .refl _, .slnil⟩
  | cons d es ih =>
    cases hc with
    | cons q r =>
      cases r with
      | nil => exact ⟨[], [], .nil, .refl _, List.nil_sublist _⟩
      | cons q2 r2 =>
        obtain ⟨fq, fr, R, p, s⟩ := ih (.cons q2 r2)
        rename_i f0 _ _ _ _ _ _ _
        exact ⟨_, f0 ++ fr, .cons q R, List.Perm.append_left _ p, s.append_left _⟩
theorem SR.inner {Hs H0 H : Hp} {vs : List (Option V)} {ds : List (Option D)} (S : SR Hs H0 H vs ds) (n : noB ds) {i k : Nat} {xs ys : List D} (e : ds[i]? = some (some (.lst .o xs))) (ek : xs[k]? = some (.lst .o ys)) :
    ∃ p us q ws, vs[i]? = some (some (.ref p)) ∧ H p = some (.lst us) ∧ us.length = xs.length ∧ us[k]? = some (.ref q) ∧ H q = some (.lst ws) ∧ ws.length = ys.length ∧
      ∀ ws' ys', (∀ Hf H gq, RepOs Hf H gq ws ys → ∃ fq fr, RepOs Hf H fq ws' ys' ∧ fq.Perm fr ∧ fr.Sublist gq) → SR Hs H0 (upd H q (.lst ws')) vs (ds.set i (some (.lst .o (xs.set k (.lst .o ys'))))) := by
  obtain ⟨Hf, fp, r, F⟩ := S
  obtain ⟨p, fpx, fpr, e', q, pm, w⟩ := r.write n F.nd e rfl
  cases q with
  | lst q R =>
    rename_i us
    obtain ⟨u, f1', eu, ru, _⟩ := R.item ek
    obtain ⟨qq, ws, rfl, hq⟩ : ∃ qq ws, u = .ref qq ∧ H qq = some (.lst ws) := by
      cases ru with
      | fz _ z => cases z
      | lst z _ => exact ⟨_, _, rfl, z⟩
    have hwl : ws.length = ys.length := by
      cases ru with
      | fz _ z => cases z
      | lst z R3 => rw [hq] at z; cases z; exact R3.length
    refine ⟨p, us, qq, ws, e', q, R.length, eu, hq, hwl, fun ws' ys' hR => ?_⟩
    obtain ⟨u2, g1, g2, eu2, ru2, pg, tn⟩ := RepOs.turn (H' := upd H qq (.lst ws')) R ek
    rw [eu] at eu2
    cases eu2
    cases ru2 with
    | fz _ z => cases z
    | lst hq2 R2 =>
      rename_i ws2 gq
      rw [hq] at hq2
      cases hq2
      have pm' : fp.Perm (qq :: gq ++ (p :: g2 ++ fpr)) := by
        refine pm.trans ?_
        have a1 : (p :: fpx ++ fpr).Perm (p :: ((qq :: gq) ++ g2) ++ fpr) := List.Perm.append_right _ (List.Perm.cons p pg)
        refine a1.trans ?_
        rw [List.cons_append, List.append_assoc]
        exact List.perm_middle.symm
      have F' := F.perm pm'.symm
      have hqn : qq ∉ gq ++ (p :: g2 ++ fpr) := by
        have := F'.nd
        rw [List.cons_append] at this
        exact (List.nodup_cons.mp this).1
      have hqm : qq ∈ fp := pm'.symm.subset (by simp)
      have kp : ∀ (l : List Addr), (∀ a ∈ l, a ∈ gq ++ (p :: g2 ++ fpr)) → ∀ a o, a ∈ l → H a = some o → upd H qq (.lst ws') a = some o := fun l hl a o m z =>
        same_upd (fun y => by subst y; exact hqn (hl a m)) z
      obtain ⟨fq', f2', R', p2, s2⟩ := hR Hf (upd H qq (.lst ws')) gq (R2.keep (Same.refl _) (kp gq fun a m => by simp [m]))
      obtain ⟨fpx', Rx, px⟩ := tn (qq :: fq') (.lst .o ys') (.lst upd_same R') (kp g2 fun a m => by simp [m])
      have hp : upd H qq (.lst ws') p = some (.lst us) := kp [p] (fun a m => by simp at m; simp [m]) p _ (by simp) q
      obtain ⟨fp', O', p'⟩ := w (upd H qq (.lst ws')) (.lst .o (xs.set k (.lst .o ys'))) (p :: fpx') (kp fpr fun a m => by simp [m]) (.lst hp Rx)
      have pf : fp'.Perm (qq :: f2' ++ (p :: g2 ++ fpr)) := by
        refine p'.trans ((List.Perm.append_right fpr (List.Perm.cons p (px.trans (List.Perm.append_right g2 (List.Perm.cons qq p2))))).trans ?_)
        have : (p :: ((qq :: f2') ++ g2) ++ fpr) = (p :: ((qq :: f2') ++ (g2 ++ fpr))) := by simp
        rw [this]
        exact List.perm_middle.symm
      have sl : (qq :: f2' ++ (p :: g2 ++ fpr)).Sublist (qq :: gq ++ (p :: g2 ++ fpr)) := List.Sublist.append_right (List.Sublist.cons_cons qq s2) _
      have F2 := (F'.subl sl).perm pf
      exact ⟨Hf, fp', O', F.wrote hqm F2.nd F2.own⟩
def inAt (ρ : FEnv) (i iy : Nat) (k : List D → Nat → List D → FOut) : FOut := match ρ[i]?, ρ[iy]? with
  | some (some (.lst .o xs)), some (some (.int K)) => match ixN xs.length K with
    | some n => match xs[n]? with
      | some (.lst .o ys) => k xs n ys
      | _ => .bad
    | none => .bad
  | _, _ => .bad
theorem inAt_of {ρ : FEnv} {i iy : Nat} {k : List D → Nat → List D → FOut} {Hs H0 : Hp} {Ex : Value → Prop} {En : Ends} (h : PostS Hs H0 Ex En (inAt ρ i iy k)) : ∃ xs K n ys, ρ[i]? = some (some (.lst .o xs)) ∧ ρ[iy]? = some (some (.int K)) ∧ ixN xs.length K = some n ∧ xs[n]? = some (.lst .o ys) ∧ PostS Hs H0 Ex En (k xs n ys) := by
  unfold inAt at h
  split at h
  · rename_i xs K h1 h2
    split at h
    · rename_i n hn
      split at h
      · rename_i ys hy
        exact ⟨xs, K, n, ys, h1, h2, hn, hy, h⟩
      · exact h.elim
    · exact h.elim
  · exact h.elim
def gPop2 (i iy : Nat) : FEnv → FOut := fun ρ => inAt ρ i iy fun xs n ys => if ys.length = 0 then .bad else .nx (ρ.set i (some (.lst .o (xs.set n (.lst .o ys.dropLast)))))
def gSet2E (i iy : Nat) (fj fv : FEnv → Res D) : FEnv → FOut := fun ρ => aft (fv ρ) fun d => match d with
  | .int c => inAt ρ i iy fun xs n ys => aft (fj (frzAll ρ)) fun jd => match jd with
    | .int J => match ixN ys.length J with
      | some j => .nx (ρ.set i (some (.lst .o (xs.set n (.lst .o (ys.set j (.int c)))))))
      | none => .bad
    | _ => .bad
  | _ => .bad
section
variable {X : Cx} {Ex : Value → Prop} {H0 : Hp} {pos : Pos}
theorem fs_pop2 {i iy : Nat} {x y : Str} {p1 p2 p3 p4 p5 : Pos} (hv : PV X (.Name x p1) i) (hy : PV X (.Name y p5) iy) (hpl : PlainIx (.Name y p5) := by intro _ _; rfl)
    (hbase : attributeBase (.Subscript (.Name x p1) (.Name y p5) p4) "pop" X.env (eval (.Subscript (.Name x p1) (.Name y p5) p4) X.env) = eval (.Subscript (.Name x p1) (.Name y p5) p4) X.env := by rfl) (hline : (p2.endLine == p3.line) = true := by rfl)
    (hsw : swapsWith (.Call (.Attribute (.Subscript (.Name x p1) (.Name y p5) p4) "pop" p2) [] [] p3) none pos.line X.env = pure false := by rfl) :
    FS X H0 Ex (.Expr (.Call (.Attribute (.Subscript (.Name x p1) (.Name y p5) p4) "pop" p2) [] [] p3) pos) (gPop2 i iy) := by
  refine ⟨PS.pre (ps_expr (pe_bm0 PySem.F.plainAttrs_list PySem.F.slot_list_pop PySem.F.type_list_pop mt_pop (pe_ix ix_list hv.go hy.go hpl) hbase hline) hsw) ?_⟩
  rintro En σ H ⟨Hs, ρ, ⟨S, n⟩, p⟩
  obtain ⟨xs, K, m, ys, e1, e2, e3, e4, p⟩ := inAt_of p
  by_cases hz : ys.length = 0
  · rw [if_pos hz] at p; exact p.elim
  rw [if_neg hz] at p
  obtain ⟨q, us, r, ws, hq, hH, hl, hr, hr2, hwl, w⟩ := S.inner n e1 e4
  obtain ⟨vK, hvK, SK⟩ := S.get e2
  cases SR.isInt (show SR Hs H0 H (some vK :: σ) (some (.int K) :: ρ) from SK)
  have hlast : ws.length - 1 < ws.length := by omega
  refine ⟨.ref q, hq, .int K, hvK, q, us, K, .ref r, rfl, rfl, SqL.of hH, ?_, .inl ⟨rfl, ws, SqL.of hr2⟩, r, ws, ws[ws.length - 1], rfl, rfl, hr2, by simp [hlast], p σ _ ⟨w _ _ fun Hf H gq R => R.dropLast, n.set fun d' z => by cases z; exact fun y => nomatch y⟩⟩
  unfold atI
  rw [hl, e3]
  exact hr
theorem fs_set2E {i iy : Nat} {x y : Str} {p1 p4 p7 py : Pos} {je ve : Expr} {fj fv : FEnv → Res D} (hv : PV X (.Name x p1) i) (hy : PV X (.Name y py) iy) (hj : FE X H0 Ex je fj) (he : FE X H0 Ex ve fv) (hpl : PlainIx (.Name y py) := by intro _ _; rfl)
    (has : ∀ v, assign (.Subscript (.Subscript (.Name x p1) (.Name y py) p4) je p7) X.env v = (do
      let ov ← holding [v] (eval (.Subscript (.Name x p1) (.Name y py) p4) X.env)
      let iv ← holding [v, ov] (eval je X.env)
      standAt p7
      holding [v, ov, iv] (setItem ov iv v)
      release [v, ov, iv] []) := by intro _; rfl)
    (hs2 : swapsWithSole [.Subscript (.Subscript (.Name x p1) (.Name y py) p4) je p7] ve pos.line X.env = pure false := by rfl) (hw : swappedStores [.Subscript (.Subscript (.Name x p1) (.Name y py) p4) je p7] ve X.env = pure none := by rfl)
    (h1 : (assignEach [.Subscript (.Subscript (.Name x p1) (.Name y py) p4) je p7] X.env).map (·.2) = [assign (.Subscript (.Subscript (.Name x p1) (.Name y py) p4) je p7) X.env] := by rfl) :
    FS X H0 Ex (.Assign [.Subscript (.Subscript (.Name x p1) (.Name y py) p4) je p7] ve pos) (gSet2E i iy fj fv) := by
  refine ⟨PS.pre (ps_asg he.go (pg_sub (pe_ix ix_list hv.go hy.go hpl) hj.go set_list has) hs2 hw h1) ?_⟩
  rintro En σ H ⟨Hs, ρ, ⟨S, n⟩, p⟩
  refine ⟨Hs, ρ, [], S, (PostS.aft p).imp fun d _ pp v H1 S1 => ?_⟩
  have S1 : SR Hs H0 H1 (some v :: σ) (some d :: ρ) := S1
  split at pp
  case h_2 => exact pp.elim
  rename_i c _ _
  cases SR.isInt S1
  obtain ⟨xs, K, m, ys, e1, e2, e3, e4, pq⟩ := inAt_of pp
  have S1 := S1.drop
  obtain ⟨q, us, r, ws, hq, hH, hl, hr, hr2, hwl, _⟩ := S1.inner n e1 e4
  obtain ⟨vK, hvK, SK⟩ := S1.get e2
  cases SR.isInt (show SR Hs H0 H1 (some vK :: σ) (some (.int K) :: ρ) from SK)
  have mem : ∀ {Hf fp}, Own Hf H1 fp σ ρ → Fine Hs H0 Hf H1 fp → q ∈ fp ∧ r ∈ fp := by
    intro Hf fp O F
    obtain ⟨p', fpx, fpr, e', rq, pm, _⟩ := O.write n F.nd e1 rfl
    rw [hq] at e'
    cases e'
    cases rq with
    | lst hh R =>
      rw [hH] at hh
      cases hh
      obtain ⟨u, f1', eu, ru, sb⟩ := R.item e4
      rw [hr] at eu
      cases eu
      refine ⟨pm.symm.subset (by simp), pm.symm.subset (List.mem_append_left _ (List.mem_cons_of_mem _ (sb.subset ?_)))⟩
      cases ru with
      | fz _ z => cases z
      | lst _ _ => exact List.mem_cons_self
  obtain ⟨Hf, fp, O, F⟩ := S1
  obtain ⟨mq, mr⟩ := mem O F
  refine ⟨.ref q, hq, .int K, hvK, q, us, K, .ref r, rfl, rfl, SqL.of hH, ?_, mix Hf H1 fp, frzAll ρ, [], SR.all O F n, ?_⟩
  · unfold atI
    rw [hl, e3]
    exact hr
  refine (PostS.aft pq).imp fun jd _ pj w H2 S2 => ?_
  have S2 : SR (mix Hf H1 fp) H0 H2 (some w :: σ) (some jd :: frzAll ρ) := S2
  split at pj
  case h_2 => exact pj.elim
  rename_i J _ _
  split at pj
  case h_2 => exact pj.elim
  rename_i j hj'
  cases SR.isInt S2
  have z2 : Same (mix Hf H1 fp) H2 := let ⟨_, _, _, Z⟩ := S2; Z.sf.trans Z.fh
  have z0 : Same H0 H2 := let ⟨_, _, _, Z⟩ := S2; Z.zh
  have kp : ∀ a o, a ∈ fp → H1 a = some o → H2 a = some o := fun a o ma e => z2 a o (by rw [mix_in ma]; exact e)
  have S3 : SR Hs H0 H2 σ ρ := ⟨Hf, fp, O.keep (Same.refl _) n kp, F.nd, F.own, (mix_same F.fh).trans z2, z0, F.sf, F.new⟩
  obtain ⟨q', us', r', ws', hq', hH', hl', hr', hr2', hwl', w'⟩ := S3.inner n e1 e4
  rw [hq] at hq'
  cases hq'
  rw [kp _ _ mq hH] at hH'
  cases hH'
  rw [hr] at hr'
  cases hr'
  rw [kp _ _ mr hr2] at hr2'
  cases hr2'
  refine ⟨r, ws, J, j, rfl, rfl, kp _ _ mr hr2, by rw [hwl]; exact hj', pj σ _ ⟨w' _ _ fun Hf' H' gq R => ?_, n.set fun d' z => by cases z; exact fun y => nomatch y⟩⟩
  obtain ⟨fq', f2', R', p2, s2⟩ := RepOs.put (Hf := Hf') (H := H') (f1 := []) (v := .int c) (d := .int c) (.fz .int rfl) R (ixN_lt hj')
  exact ⟨fq', f2', R', by simpa using p2, s2⟩
end
end Mi
namespace Mi
open PySem L2
theorem hu16 {k : Nat} {A : Around} (r : Room k A) : A.units + 16 < cLine := by have := r.un; omega
end Mi
namespace Lw
open PySem PySem.Spec L2 Mi
open PyProof.Rows hiding St
structure Ads where
  BadNet : Addr
  WalkError : Addr
  Net : Addr
structure Bl (K : PySem.W.Frag) (mg : Str → Option Value) (a : Ads) : Prop where
  b_ValueError : mg "ValueError" = none
  b_all : mg "all" = none
  b_bool : mg "bool" = none
  b_int : mg "int" = none
  b_isinstance : mg "isinstance" = none
  b_len : mg "len" = none
  b_list : mg "list" = none
  b_max : mg "max" = none
  b_min : mg "min" = none
  b_range : mg "range" = none
  b_repr : mg "repr" = none
  b_sorted : mg "sorted" = none
  c_MOST_SIDE : ∃ t, mg "MOST_SIDE" = some (.int 8 t)
  c_MOST_WALKERS : ∃ t, mg "MOST_WALKERS" = some (.int 4 t)
  c_MOST_WEIGHT : ∃ t, mg "MOST_WEIGHT" = some (.int 1000 t)
  k_bool : KT K "bool"
  k_int : KT K "int"
  x_BadNet : XCls K mg "BadNet" a.BadNet
  x_WalkError : XCls K mg "WalkError" a.WalkError
  q_BadNet : xcAsk K a.BadNet = true
  kx_BadNet_ValueError : PySem.W.kitOne K (.ref a.BadNet) (.type "ValueError") = some true
  kx_BadNet_WalkError : PySem.W.kitOne K (.ref a.BadNet) (.ref a.WalkError) = some true
  m_BadNet_BadNet : PySem.W.exmOne K (.ref a.BadNet) (.ref a.BadNet) = some true
  cl_Net : Cls K a.Net
  na_Net_columns : NoAttr K a.Net "columns"
  na_Net_ends : NoAttr K a.Net "ends"
  na_Net_right : NoAttr K a.Net "right"
  na_Net_rows : NoAttr K a.Net "rows"
  na_Net_starts : NoAttr K a.Net "starts"
  na_Net_up : NoAttr K a.Net "up"
variable {P : Program} {w : World} {K : PySem.W.Frag} {mg : Str → Option Value} {base : Heap} {a : Ads}
def g_check_side (a : Ads) : FEnv → FOut :=
  (gIf (ftNot (ftB (fChainI (fun i j => decide (i ≤ j)) (fun i j => decide (i ≤ j)) (fC (.int 1)) (fVar 0) (fC (.int 8))))) (fun _ => .exc (.ref a.BadNet)) gSkip)
def F_check_side (a : Ads) : List D → Res D := bodyF 1 (g_check_side a)
theorem sc_check_side : FnScope ["length"] ["length"] (defScope (top 7)) := ⟨rfl, rfl, rfl, by decide +kernel, rfl, by decide +kernel, by decide +kernel⟩
theorem ok_check_side (B : Bl K mg a) (U : Df K mg "check_side" (top 7) ["length"])  : Cal P w K mg base "check_side" 1 (F_check_side a) 1 := by
  refine dfx_ok (k := 0) (N := ["length"]) U sc_check_side fun f cdv A outer s H E Ex hE hr => ?_
  have sc := sc_check_side
  exact (fss_one (fs_if (ft_not (ft_chain op_le op_le fe_int (fe_var 0 (mv 0)) (fe_gint rfl B.c_MOST_SIDE.choose_spec ⟨_, rfl⟩))) (fss_one (fs_raise B.x_BadNet hE rfl)) fss_nil))
def g_check_steps (a : Ads) : FEnv → FOut :=
  (gSeq (gIf (ft2 (dEqS true) (fCB cLen (faCons (fVar 0) faNil)) (fVar 1)) (fun _ => .exc (.ref a.BadNet)) gSkip)
  (gFor (fiAny (fVar 0)) (tgName 3) (gSeq (gIf (ft2 (dEqS true) (fCB cLen (faCons (fVar 3) faNil)) (fVar 2)) (fun _ => .exc (.ref a.BadNet)) gSkip)
  (gIf (ftNot (ftB (fCB cAll (faCons (fCompX 1 [] (fiAny (fVar 3)) (tgName 0) ftTrue (fChainI (fun i j => decide (i ≤ j)) (fun i j => decide (i ≤ j)) (fC (.int 0)) (fVar 0) (fC (.int 1000)))) faNil)))) (fun _ => .exc (.ref a.BadNet)) gSkip))))
def F_check_steps (a : Ads) : List D → Res D := bodyF 4 (g_check_steps a)
theorem sc_check_steps : FnScope ["lists", "count", "length", "weights"] ["lists", "count", "length"] (defScope (top 8)) := ⟨rfl, rfl, rfl, by decide +kernel, rfl, by decide +kernel, by decide +kernel⟩
theorem ok_check_steps (B : Bl K mg a) (U : Df K mg "check_steps" (top 8) ["lists", "count", "length"])  : Cal P w K mg base "check_steps" 3 (F_check_steps a) 1 := by
  refine dfx_ok (k := 0) (N := ["lists", "count", "length", "weights"]) U sc_check_steps fun f cdv A outer s H E Ex hE hr => ?_
  have sc := sc_check_steps
  exact (fss_cons (fs_if (ft_cmp fo_neS (dEqS_noX _) (fe_callB fc_len cLen_noX rfl B.b_len (by decide +kernel) (fa_cons (fe_var 0 (mv 0)) fa_nil)) (fe_var 1 (mv 1)) (nomark _)) (fss_one (fs_raise B.x_BadNet hE rfl)) fss_nil)
    (fss_one (fs_for po_cx rfl (fi_any (fe_var 0 (mv 0))) (fg_name (i := 3) sc.nd rfl (.inl rfl)) (fss_cons (fs_if (ft_cmp fo_neS (dEqS_noX _) (fe_callB fc_len cLen_noX rfl B.b_len (by decide +kernel) (fa_cons (fe_var 3 (mv 3)) fa_nil)) (fe_var 2 (mv 2)) (nomark _)) (fss_one (fs_raise B.x_BadNet hE rfl)) fss_nil)
    (fss_one (fs_if (ft_not (ft_val (fe_callB (fc_all rfl) cAll_noX rfl B.b_all (by decide +kernel) (fa_cons (fe_comp rfl (CompScope.of (own := ["weight"]) (cap := []) rfl (by decide +kernel) rfl rfl (by decide +kernel)) (fi_any (fe_var 3 (mv 3))) (fun C cells s0 H0 ex pn hN => ⟨(fg_name (i := 0) hN rfl (by first | exact Or.inl rfl | exact Or.inr rfl)), fts_nil, (fe_chain op_le op_le fe_int (fe_var 0 (mv 0)) (fe_gint rfl B.c_MOST_WEIGHT.choose_spec ⟨_, rfl⟩))⟩)) fa_nil)))) (fss_one (fs_raise B.x_BadNet hE rfl)) fss_nil))))))
def g_check_border (a : Ads) : FEnv → FOut :=
  (gSeq (gIf (ftNot (ftB (fChainI (fun i j => decide (i ≤ j)) (fun i j => decide (i ≤ j)) (fC (.int 1)) (fCB cLen (faCons (fVar 0) faNil)) (fC (.int 4))))) (fun _ => .exc (.ref a.BadNet)) gSkip)
  (gSeq (gSet 2 (fFz (f1 dNeg (fC (.int 1)))))
  (gFor (fiAny (fVar 0)) (tgName 3) (gSeq (gIf (ftNot (ftB (fChainI (fun i j => decide (i < j)) (fun i j => decide (i < j)) (fVar 2) (fVar 3) (fVar 1)))) (fun _ => .exc (.ref a.BadNet)) gSkip)
  (gSet 2 (fFz (fVar 3)))))))
def F_check_border (a : Ads) : List D → Res D := bodyF 4 (g_check_border a)
theorem sc_check_border : FnScope ["chosen", "rows", "last", "row"] ["chosen", "rows"] (defScope (top 9)) := ⟨rfl, rfl, rfl, by decide +kernel, rfl, by decide +kernel, by decide +kernel⟩
theorem ok_check_border (B : Bl K mg a) (U : Df K mg "check_border" (top 9) ["chosen", "rows"])  : Cal P w K mg base "check_border" 2 (F_check_border a) 1 := by
  refine dfx_ok (k := 0) (N := ["chosen", "rows", "last", "row"]) U sc_check_border fun f cdv A outer s H E Ex hE hr => ?_
  have sc := sc_check_border
  exact (fss_cons (fs_if (ft_not (ft_chain op_le op_le fe_int (fe_callB fc_len cLen_noX rfl B.b_len (by decide +kernel) (fa_cons (fe_var 0 (mv 0)) fa_nil)) (fe_gint rfl B.c_MOST_WALKERS.choose_spec ⟨_, rfl⟩))) (fss_one (fs_raise B.x_BadNet hE rfl)) fss_nil)
    (fss_cons (fs_set (i := 2) sc.nd rfl (.inl rfl) (fe_fz (fe_neg fe_int)))
    (fss_one (fs_for po_cx rfl (fi_any (fe_var 0 (mv 0))) (fg_name (i := 3) sc.nd rfl (.inl rfl)) (fss_cons (fs_if (ft_not (ft_chain op_lt op_lt (fe_var 2 (mv 2)) (fe_var 3 (mv 3)) (fe_var 1 (mv 1)))) (fss_one (fs_raise B.x_BadNet hE rfl)) fss_nil)
    (fss_one (fs_set (i := 2) sc.nd rfl (.inl rfl) (fe_fz (fe_var 3 (mv 3))))))))))
def g_Net (a : Ads) : FEnv → FOut :=
  (gSeq (gDrop (fCallN 1 (F_check_side a) (faCons (fCB cLen (faCons (fVar 1) faNil)) faNil)))
  (gSeq (gSet 5 (fFz (fCB cLen (faCons (fVar 1) faNil))))
  (gSeq (gSet 6 (fFz (f2 dCat (fCB cLen (faCons (f2 dIx (fVar 1) (fC (.int 0))) faNil)) (fC (.int 1)))))
  (gSeq (gDrop (fCallN 1 (F_check_side a) (faCons (fVar 6) faNil)))
  (gSeq (gDrop (fCallN 3 (F_check_steps a) (faCons (fVar 1) (faCons (fVar 5) (faCons (f2 dSub (fVar 6) (fC (.int 1))) faNil)))))
  (gSeq (gDrop (fCallN 3 (F_check_steps a) (faCons (fVar 2) (faCons (f2 dSub (fVar 5) (fC (.int 1))) (faCons (fVar 6) faNil)))))
  (gSeq (gDrop (fCallN 2 (F_check_border a) (faCons (fVar 3) (faCons (fVar 5) faNil))))
  (gSeq (gDrop (fCallN 2 (F_check_border a) (faCons (fVar 4) (faCons (fVar 5) faNil))))
  (gSeq (gIf (ft2 (dEqS true) (fCB cLen (faCons (fVar 3) faNil)) (fCB cLen (faCons (fVar 4) faNil))) (fun _ => .exc (.ref a.BadNet)) gSkip)
  (gNone (gSeq (gFldN a.Net "right" (fCompX 1 [] (fiAny (fVar 1)) (tgName 0) ftTrue (fCB cList (faCons (fVar 0) faNil))))
  (gSeq (gFldN a.Net "up" (fCompX 1 [] (fiAny (fVar 2)) (tgName 0) ftTrue (fCB cList (faCons (fVar 0) faNil))))
  (gSeq (gFldN a.Net "starts" (fCB cList (faCons (fVar 3) faNil)))
  (gSeq (gFldN a.Net "ends" (fCB cList (faCons (fVar 4) faNil)))
  (gSeq (gFldN a.Net "columns" (fVar 6))
  (gFldN a.Net "rows" (fVar 5)))))))))))))))))
def I_Net (a : Ads) : Addr → List D → Res (List (Str × D)) := initF a.Net 7 (g_Net a)
theorem sc_Net : FnScope ["self", "right", "up", "starts", "ends", "rows", "columns"] ["self", "right", "up", "starts", "ends"] (defScope (inTop 10 0)) := ⟨rfl, rfl, rfl, by decide +kernel, rfl, by decide +kernel, by decide +kernel⟩
theorem ok_Net (B : Bl K mg a) (U : ∃ f fd, Fun K "__init__" "Net.__init__" (inTop 10 0) f fd ∧ mg "Net" = some (.ref a.Net) ∧ Mk K a.Net f ∧ Binds K fd ["self", "right", "up", "starts", "ends"] []) (c_check_border : Cal P w K mg base "check_border" 2 (F_check_border a) 1) (c_check_side : Cal P w K mg base "check_side" 1 (F_check_side a) 1) (c_check_steps : Cal P w K mg base "check_steps" 3 (F_check_steps a) 1) : MakN P w K mg base "Net" a.Net 4 (I_Net a) 2 := by
  refine mkN_ok (k := 1) (N := ["self", "right", "up", "starts", "ends", "rows", "columns"]) U sc_Net rfl fun f cdv A outer s H H0 E Ex hE hr => ?_
  have sc := sc_Net
  exact (fn0_cons (fs_expr (fe_callX c_check_side (pa_cx hE) (hr.mono (by decide)) rfl (fa_cons (fe_callB fc_len cLen_noX rfl B.b_len (by decide +kernel) (fa_cons (fe_var 1 (mv 1)) fa_nil)) fa_nil)))
    (fn0_cons (fs_set (i := 5) sc.nd rfl (.inl rfl) (fe_fz (fe_callB fc_len cLen_noX rfl B.b_len (by decide +kernel) (fa_cons (fe_var 1 (mv 1)) fa_nil))))
    (fn0_cons (fs_set (i := 6) sc.nd rfl (.inl rfl) (fe_fz (fe_op fo_add dCat_noX (fe_callB fc_len cLen_noX rfl B.b_len (by decide +kernel) (fa_cons (fe_ix (fe_var 1 (mv 1)) fe_int) fa_nil)) fe_int)))
    (fn0_cons (fs_expr (fe_callX c_check_side (pa_cx hE) (hr.mono (by decide)) rfl (fa_cons (fe_var 6 (mv 6)) fa_nil)))
    (fn0_cons (fs_expr (fe_callX c_check_steps (pa_cx hE) (hr.mono (by decide)) rfl (fa_cons (fe_var 1 (mv 1)) (fa_cons (fe_var 5 (mv 5)) (fa_cons (fe_op fo_sub (gI_noX _ _) (fe_var 6 (mv 6)) fe_int) fa_nil)))))
    (fn0_cons (fs_expr (fe_callX c_check_steps (pa_cx hE) (hr.mono (by decide)) rfl (fa_cons (fe_var 2 (mv 2)) (fa_cons (fe_op fo_sub (gI_noX _ _) (fe_var 5 (mv 5)) fe_int) (fa_cons (fe_var 6 (mv 6)) fa_nil)))))
    (fn0_cons (fs_expr (fe_callX c_check_border (pa_cx hE) (hr.mono (by decide)) rfl (fa_cons (fe_var 3 (mv 3)) (fa_cons (fe_var 5 (mv 5)) fa_nil))))
    (fn0_cons (fs_expr (fe_callX c_check_border (pa_cx hE) (hr.mono (by decide)) rfl (fa_cons (fe_var 4 (mv 4)) (fa_cons (fe_var 5 (mv 5)) fa_nil))))
    (fn0_cons (fs_if (ft_cmp fo_neS (dEqS_noX _) (fe_callB fc_len cLen_noX rfl B.b_len (by decide +kernel) (fa_cons (fe_var 3 (mv 3)) fa_nil)) (fe_callB fc_len cLen_noX rfl B.b_len (by decide +kernel) (fa_cons (fe_var 4 (mv 4)) fa_nil)) (nomark _)) (fss_one (fs_raise B.x_BadNet hE rfl)) fss_nil)
    (fn0_in (fsn_cons (ps_fldN (mv 0) (fe_comp rfl (CompScope.of (own := ["weights"]) (cap := []) rfl (by decide +kernel) rfl rfl (by decide +kernel)) (fi_any (fe_var 1 (mv 1))) (fun C cells s0 H0 ex pn hN => ⟨(fg_name (i := 0) hN rfl (by first | exact Or.inl rfl | exact Or.inr rfl)), fts_nil, (fe_callT fc_list cList_noX rfl B.b_list (by decide +kernel) (fa_cons (fe_var 0 (mv 0)) fa_nil))⟩)) B.cl_Net B.na_Net_right)
    (fsn_cons (ps_fldN (mv 0) (fe_comp rfl (CompScope.of (own := ["weights"]) (cap := []) rfl (by decide +kernel) rfl rfl (by decide +kernel)) (fi_any (fe_var 2 (mv 2))) (fun C cells s0 H0 ex pn hN => ⟨(fg_name (i := 0) hN rfl (by first | exact Or.inl rfl | exact Or.inr rfl)), fts_nil, (fe_callT fc_list cList_noX rfl B.b_list (by decide +kernel) (fa_cons (fe_var 0 (mv 0)) fa_nil))⟩)) B.cl_Net B.na_Net_up)
    (fsn_cons (ps_fldN (mv 0) (fe_callT fc_list cList_noX rfl B.b_list (by decide +kernel) (fa_cons (fe_var 3 (mv 3)) fa_nil)) B.cl_Net B.na_Net_starts)
    (fsn_cons (ps_fldN (mv 0) (fe_callT fc_list cList_noX rfl B.b_list (by decide +kernel) (fa_cons (fe_var 4 (mv 4)) fa_nil)) B.cl_Net B.na_Net_ends)
    (fsn_cons (ps_fldN (mv 0) (fe_var 6 (mv 6)) B.cl_Net B.na_Net_columns)
    (fsn_one (ps_fldN (mv 0) (fe_var 5 (mv 5)) B.cl_Net B.na_Net_rows)))))))))))))))))
def g__law_cell_at (a : Ads) : FEnv → FOut :=
  (gSeq (gIf (ft2 dLt (fVar 1) (fCB cLen (faCons (fVar 0) faNil))) (gRet (f2 dIx (fVar 0) (fVar 1))) gSkip)
  (gRet (fC (.int 0))))
def F__law_cell_at (a : Ads) : List D → Res D := bodyF 2 (g__law_cell_at a)
theorem sc__law_cell_at : FnScope ["script", "k"] ["script", "k"] (defScope (top 12)) := ⟨rfl, rfl, rfl, by decide +kernel, rfl, by decide +kernel, by decide +kernel⟩
theorem ok__law_cell_at (B : Bl K mg a) (U : Df K mg "_law_cell_at" (top 12) ["script", "k"])  : Cal P w K mg base "_law_cell_at" 2 (F__law_cell_at a) 1 := by
  refine dfx_ok (k := 0) (N := ["script", "k"]) U sc__law_cell_at fun f cdv A outer s H E Ex hE hr => ?_
  have sc := sc__law_cell_at
  exact (fss_cons (fs_if (ft_cmp fo_lt (gI_noX _ _) (fe_var 1 (mv 1)) (fe_callB fc_len cLen_noX rfl B.b_len (by decide +kernel) (fa_cons (fe_var 0 (mv 0)) fa_nil)) (nomark _)) (fss_one (fs_ret (fe_ix (fe_var 0 (mv 0)) (fe_var 1 (mv 1))))) fss_nil)
    (fss_one (fs_ret fe_int)))
def g__law_mix (a : Ads) : FEnv → FOut :=
  (gSeq (gSet 3 (fFz (fLst (faCons (fC (.int 48271)) (faCons (fC (.int 69621)) (faCons (fC (.int 16807)) (faCons (fC (.int 39373)) (faCons (fC (.int 30269)) (faCons (fC (.int 40014)) (faCons (fC (.int 40692)) (faCons (fC (.int 50021)) (faCons (fC (.int 61687)) (faCons (fC (.int 71993)) (faCons (fC (.int 83869)) (faCons (fC (.int 95561)) (faCons (fC (.int 30307)) faNil))))))))))))))))
  (gSeq (gSet 4 (fFz (f2 dMulI (f2 dCat (f2 dMod (fVar 0) (fC (.int 2147483647))) (fC (.int 12345))) (f2 dIx (fVar 3) (f2 dMod (fVar 1) (fC (.int 13)))))))
  (gSeq (gSet 4 (fFz (f2 dCat (f2 dMulI (fVar 4) (f2 dCat (f2 dMulI (fC (.int 2)) (f2 dFdiv (fVar 1) (fC (.int 13)))) (fC (.int 1)))) (f2 dMulI (fC (.int 977)) (fVar 1)))))
  (gRet (f2 dMod (f2 dFdiv (f2 dMod (fVar 4) (fC (.int 1000000007))) (fC (.int 7))) (fVar 2))))))
def F__law_mix (a : Ads) : List D → Res D := bodyF 5 (g__law_mix a)
theorem sc__law_mix : FnScope ["cell", "k", "many", "some", "number"] ["cell", "k", "many"] (defScope (top 13)) := ⟨rfl, rfl, rfl, by decide +kernel, rfl, by decide +kernel, by decide +kernel⟩
theorem ok__law_mix (B : Bl K mg a) (U : Df K mg "_law_mix" (top 13) ["cell", "k", "many"])  : Cal P w K mg base "_law_mix" 3 (F__law_mix a) 1 := by
  refine dfx_ok (k := 0) (N := ["cell", "k", "many", "some", "number"]) U sc__law_mix fun f cdv A outer s H E Ex hE hr => ?_
  have sc := sc__law_mix
  exact (fss_cons (fs_set (i := 3) sc.nd rfl (.inl rfl) (fe_fz (fe_lst (fa_cons fe_int (fa_cons fe_int (fa_cons fe_int (fa_cons fe_int (fa_cons fe_int (fa_cons fe_int (fa_cons fe_int (fa_cons fe_int (fa_cons fe_int (fa_cons fe_int (fa_cons fe_int (fa_cons fe_int (fa_cons fe_int fa_nil))))))))))))))))
    (fss_cons (fs_set (i := 4) sc.nd rfl (.inl rfl) (fe_fz (fe_op fo_mulI (gI_noX _ _) (fe_op fo_add dCat_noX (fe_op fo_mod (gI_noX _ _) (fe_var 0 (mv 0)) fe_int) fe_int) (fe_ix (fe_var 3 (mv 3)) (fe_op fo_mod (gI_noX _ _) (fe_var 1 (mv 1)) fe_int)))))
    (fss_cons (fs_set (i := 4) sc.nd rfl (.inl rfl) (fe_fz (fe_op fo_add dCat_noX (fe_op fo_mulI (gI_noX _ _) (fe_var 4 (mv 4)) (fe_op fo_add dCat_noX (fe_op fo_mulI (gI_noX _ _) fe_int (fe_op fo_fdiv (gI_noX _ _) (fe_var 1 (mv 1)) fe_int)) fe_int)) (fe_op fo_mulI (gI_noX _ _) fe_int (fe_var 1 (mv 1))))))
    (fss_one (fs_ret (fe_op fo_mod (gI_noX _ _) (fe_op fo_fdiv (gI_noX _ _) (fe_op fo_mod (gI_noX _ _) (fe_var 4 (mv 4)) fe_int) fe_int) (fe_var 2 (mv 2))))))))
def g__law_whole (a : Ads) : FEnv → FOut :=
  (gRet (fAnd (f1 (dIsT "int") (fVar 0)) (fNot (f1 (dIsT "bool") (fVar 0)))))
def F__law_whole (a : Ads) : List D → Res D := bodyF 1 (g__law_whole a)
theorem sc__law_whole : FnScope ["found"] ["found"] (defScope (top 14)) := ⟨rfl, rfl, rfl, by decide +kernel, rfl, by decide +kernel, by decide +kernel⟩
theorem ok__law_whole (B : Bl K mg a) (U : Df K mg "_law_whole" (top 14) ["found"])  : Cal P w K mg base "_law_whole" 1 (F__law_whole a) 1 := by
  refine dfx_ok (k := 0) (N := ["found"]) U sc__law_whole fun f cdv A outer s H E Ex hE hr => ?_
  have sc := sc__law_whole
  exact (fss_one (fs_ret (fe_and (fe_isT B.k_int (fe_var 0 (mv 0)) rfl B.b_isinstance rfl B.b_int (by decide +kernel)) (fe_one (fe_not (fe_isT B.k_bool (fe_var 0 (mv 0)) rfl B.b_isinstance rfl B.b_bool (by decide +kernel)))))))
def g__law_rows_by (a : Ads) : FEnv → FOut :=
  (gSeq (gSet 3 (fListR1 (faCons (fVar 2) faNil)))
  (gSeq (gSet 4 (fLst faNil))
  (gSeq (gFor (fiR1 (faCons (fVar 1) faNil)) (tgName 5) (gAppPop 4 3 (fCallN 3 (F__law_mix a) (faCons (fVar 0) (faCons (f2 dMulI (fC (.int 7)) (fVar 5)) (faCons (fCB cLen (faCons (fVar 3) faNil)) faNil))))))
  (gRet (fCB cSortedI (faCons (fVar 4) faNil))))))
def F__law_rows_by (a : Ads) : List D → Res D := bodyF 6 (g__law_rows_by a)
theorem sc__law_rows_by : FnScope ["cell", "many", "rows", "left", "found", "k"] ["cell", "many", "rows"] (defScope (top 15)) := ⟨rfl, rfl, rfl, by decide +kernel, rfl, by decide +kernel, by decide +kernel⟩
theorem ok__law_rows_by (B : Bl K mg a) (U : Df K mg "_law_rows_by" (top 15) ["cell", "many", "rows"]) (c__law_mix : Cal P w K mg base "_law_mix" 3 (F__law_mix a) 1) : Cal P w K mg base "_law_rows_by" 3 (F__law_rows_by a) 2 := by
  refine dfx_ok (k := 1) (N := ["cell", "many", "rows", "left", "found", "k"]) U sc__law_rows_by fun f cdv A outer s H E Ex hE hr => ?_
  have sc := sc__law_rows_by
  exact (fss_cons (fs_set (i := 3) sc.nd rfl (.inl rfl) (fe_listR1 rfl rfl B.b_range rfl B.b_list (fa_cons (fe_var 2 (mv 2)) fa_nil)))
    (fss_cons (fs_set (i := 4) sc.nd rfl (.inl rfl) (fe_lst fa_nil))
    (fss_cons (fs_for po_cx rfl (fi_range1 rfl B.b_range (fa_cons (fe_var 1 (mv 1)) fa_nil)) (fg_name (i := 5) sc.nd rfl (.inl rfl)) (fss_one (fs_appPop (mv 4) (mv 3) (fe_callX c__law_mix (pa_cx hE) (hr.mono (by decide)) rfl (fa_cons (fe_var 0 (mv 0)) (fa_cons (fe_op fo_mulI (gI_noX _ _) fe_int (fe_var 5 (mv 5))) (fa_cons (fe_callB fc_len cLen_noX rfl B.b_len (by decide +kernel) (fa_cons (fe_var 3 (mv 3)) fa_nil)) fa_nil)))))))
    (fss_one (fs_ret (fe_callB fc_sortedI cSortedI_noX rfl B.b_sorted (by decide +kernel) (fa_cons (fe_var 4 (mv 4)) fa_nil)))))))
def g__law_step_by (a : Ads) : FEnv → FOut :=
  (gSeq (gSet 3 (fFz (fCallN 3 (F__law_mix a) (faCons (fVar 0) (faCons (fVar 1) (faCons (fVar 2) faNil))))))
  (gSeq (gIf (ft2 dEq (fVar 3) (fC (.int 0))) (gRet (fC (.int 0))) gSkip)
  (gSeq (gIf (ft2 dEq (fVar 3) (fC (.int 1))) (gRet (f2 dIx (fLst (faCons (fC (.int 1000)) (faCons (f2 dMod (fVar 0) (fC (.int 1001))) faNil))) (fCallN 3 (F__law_mix a) (faCons (fVar 0) (faCons (f2 dCat (fVar 1) (fC (.int 500))) (faCons (fC (.int 2)) faNil)))))) gSkip)
  (gRet (f2 dCat (fC (.int 1)) (fCallN 3 (F__law_mix a) (faCons (fVar 0) (faCons (f2 dCat (fVar 1) (fC (.int 900))) (faCons (fC (.int 5)) faNil)))))))))
def F__law_step_by (a : Ads) : List D → Res D := bodyF 4 (g__law_step_by a)
theorem sc__law_step_by : FnScope ["cell", "k", "shut", "kind"] ["cell", "k", "shut"] (defScope (top 16)) := ⟨rfl, rfl, rfl, by decide +kernel, rfl, by decide +kernel, by decide +kernel⟩
theorem ok__law_step_by (B : Bl K mg a) (U : Df K mg "_law_step_by" (top 16) ["cell", "k", "shut"]) (c__law_mix : Cal P w K mg base "_law_mix" 3 (F__law_mix a) 1) : Cal P w K mg base "_law_step_by" 3 (F__law_step_by a) 2 := by
  refine dfx_ok (k := 1) (N := ["cell", "k", "shut", "kind"]) U sc__law_step_by fun f cdv A outer s H E Ex hE hr => ?_
  have sc := sc__law_step_by
  exact (fss_cons (fs_set (i := 3) sc.nd rfl (.inl rfl) (fe_fz (fe_callX c__law_mix (pa_cx hE) (hr.mono (by decide)) rfl (fa_cons (fe_var 0 (mv 0)) (fa_cons (fe_var 1 (mv 1)) (fa_cons (fe_var 2 (mv 2)) fa_nil))))))
    (fss_cons (fs_if (ft_cmp (fo_eq (hu4 hr)) dEq_noX (fe_var 3 (mv 3)) fe_int (nomark _)) (fss_one (fs_ret fe_int)) fss_nil)
    (fss_cons (fs_if (ft_cmp (fo_eq (hu4 hr)) dEq_noX (fe_var 3 (mv 3)) fe_int (nomark _)) (fss_one (fs_ret (fe_ix (fe_lst (fa_cons fe_int (fa_cons (fe_op fo_mod (gI_noX _ _) (fe_var 0 (mv 0)) fe_int) fa_nil))) (fe_callX c__law_mix (pa_cx hE) (hr.mono (by decide)) rfl (fa_cons (fe_var 0 (mv 0)) (fa_cons (fe_op fo_add dCat_noX (fe_var 1 (mv 1)) fe_int) (fa_cons fe_int fa_nil))))))) fss_nil)
    (fss_one (fs_ret (fe_op fo_add dCat_noX fe_int (fe_callX c__law_mix (pa_cx hE) (hr.mono (by decide)) rfl (fa_cons (fe_var 0 (mv 0)) (fa_cons (fe_op fo_add dCat_noX (fe_var 1 (mv 1)) fe_int) (fa_cons fe_int fa_nil))))))))))
def g__law_parts_by (a : Ads) : FEnv → FOut :=
  (gSeq (gSet 4 (fFz (f2 dCat (fC (.int 1)) (f2 dMod (fCallN 2 (F__law_cell_at a) (faCons (fVar 0) (faCons (fC (.int 0)) faNil))) (fVar 1)))))
  (gSeq (gSet 5 (fFz (f2 dCat (fC (.int 1)) (f2 dMod (fCallN 2 (F__law_cell_at a) (faCons (fVar 0) (faCons (fC (.int 1)) faNil))) (fVar 1)))))
  (gSeq (gSet 6 (fFz (fCallN 2 (F__law_cell_at a) (faCons (fVar 0) (faCons (fC (.int 2)) faNil)))))
  (gSeq (gSet 7 (fFz (fCompX 1 [3, 4, 6] (fiR1 (faCons (fVar 5) faNil)) (tgName 0) ftTrue (fCompX 1 [0, 1, 3] (fiR1 (faCons (f2 dSub (fVar 2) (fC (.int 1))) faNil)) (tgName 0) ftTrue (fCallQ 3 (F__law_step_by a) (faCons (fVar 3) (faCons (f2 dCat (f2 dMulI (fC (.int 10)) (fVar 1)) (fVar 0)) (faCons (fVar 2) faNil))))))))
  (gSeq (gSet 6 (fFz (fCallN 2 (F__law_cell_at a) (faCons (fVar 0) (faCons (fC (.int 3)) faNil)))))
  (gSeq (gSet 8 (fFz (fCompX 1 [3, 4, 6] (fiR1 (faCons (f2 dSub (fVar 5) (fC (.int 1))) faNil)) (tgName 0) ftTrue (fCompX 1 [0, 1, 3] (fiR1 (faCons (fVar 2) faNil)) (tgName 0) ftTrue (fCallQ 3 (F__law_step_by a) (faCons (fVar 3) (faCons (f2 dCat (f2 dCat (fC (.int 200)) (f2 dMulI (fC (.int 10)) (fVar 1))) (fVar 0)) (faCons (fVar 2) faNil))))))))
  (gSeq (gSet 9 (fFz (f2 dCat (fC (.int 1)) (f2 dMod (fCallN 2 (F__law_cell_at a) (faCons (fVar 0) (faCons (fC (.int 4)) faNil))) (fCB cMin2 (faCons (fVar 2) (faCons (fVar 5) faNil)))))))
  (gSeq (gSet 10 (fFz (fCallN 3 (F__law_rows_by a) (faCons (fCallN 2 (F__law_cell_at a) (faCons (fVar 0) (faCons (fC (.int 5)) faNil))) (faCons (fVar 9) (faCons (fVar 5) faNil))))))
  (gSeq (gSet 11 (fFz (fCallN 3 (F__law_rows_by a) (faCons (fCallN 2 (F__law_cell_at a) (faCons (fVar 0) (faCons (fC (.int 6)) faNil))) (faCons (fVar 9) (faCons (fVar 5) faNil))))))
  (gSeq (gIf (ft2 dGt (f2 dMod (fCallN 2 (F__law_cell_at a) (faCons (fVar 0) (faCons (fC (.int 7)) faNil))) (fC (.int 3))) (fC (.int 0))) (gSeq (gSet 10 (fFz (fListR1 (faCons (fVar 9) faNil))))
  (gSet 11 (fFz (fCompX 1 [5, 9] (fiR1 (faCons (fVar 9) faNil)) (tgName 0) ftTrue (f2 dCat (f2 dSub (fVar 1) (fVar 2)) (fVar 0)))))) gSkip)
  (gRet (fTup (faCons (fVar 7) (faCons (fVar 8) (faCons (fVar 10) (faCons (fVar 11) faNil))))))))))))))))
def F__law_parts_by (a : Ads) : List D → Res D := bodyF 12 (g__law_parts_by a)
theorem sc__law_parts_by : FnScope ["script", "most", "walkers", "shut", "columns", "rows", "cell", "right", "up", "many", "starts", "ends"] ["script", "most", "walkers", "shut"] (defScope (top 17)) := ⟨rfl, rfl, rfl, by decide +kernel, rfl, by decide +kernel, by decide +kernel⟩
theorem ok__law_parts_by (B : Bl K mg a) (U : Df K mg "_law_parts_by" (top 17) ["script", "most", "walkers", "shut"]) (c__law_cell_at : Cal P w K mg base "_law_cell_at" 2 (F__law_cell_at a) 1) (c__law_rows_by : Cal P w K mg base "_law_rows_by" 3 (F__law_rows_by a) 2) (c__law_step_by : Cal P w K mg base "_law_step_by" 3 (F__law_step_by a) 2) : Cal P w K mg base "_law_parts_by" 4 (F__law_parts_by a) 3 := by
  refine dfx_ok (k := 2) (N := ["script", "most", "walkers", "shut", "columns", "rows", "cell", "right", "up", "many", "starts", "ends"]) U sc__law_parts_by fun f cdv A outer s H E Ex hE hr => ?_
  have sc := sc__law_parts_by
  exact (fss_cons (fs_set (i := 4) sc.nd rfl (.inr rfl) (fe_fz (fe_op fo_add dCat_noX fe_int (fe_op fo_mod (gI_noX _ _) (fe_callX c__law_cell_at (pa_cx hE) (hr.mono (by decide)) rfl (fa_cons (fe_var 0 (mv 0)) (fa_cons fe_int fa_nil))) (fe_var 1 (mv 1))))))
    (fss_cons (fs_set (i := 5) sc.nd rfl (.inr rfl) (fe_fz (fe_op fo_add dCat_noX fe_int (fe_op fo_mod (gI_noX _ _) (fe_callX c__law_cell_at (pa_cx hE) (hr.mono (by decide)) rfl (fa_cons (fe_var 0 (mv 0)) (fa_cons fe_int fa_nil))) (fe_var 1 (mv 1))))))
    (fss_cons (fs_set (i := 6) sc.nd rfl (.inr rfl) (fe_fz (fe_callX c__law_cell_at (pa_cx hE) (hr.mono (by decide)) rfl (fa_cons (fe_var 0 (mv 0)) (fa_cons fe_int fa_nil)))))
    (fss_cons (fs_setF (fs_setComp (i := 7) sc.nd rfl (.inl rfl) rfl (CompScope.of (own := ["y"]) (cap := [("shut", 3), ("columns", 4), ("cell", 6)]) rfl (by decide +kernel) rfl rfl (by decide +kernel)) (fi_range1 rfl B.b_range (fa_cons (fe_var 5 (mv 5)) fa_nil)) (fun C cells s0 H0 ex pn hN => ⟨(fg_name (i := 0) hN rfl (by first | exact Or.inl rfl | exact Or.inr rfl)), fts_nil, (fe_comp rfl (CompScope.of (own := ["x"]) (cap := [("y", 0), ("shut", 1), ("cell", 3)]) rfl (by decide +kernel) rfl rfl (by decide +kernel)) (fi_range1 rfl B.b_range (fa_cons (fe_op fo_sub (gI_noX _ _) (fe_var 2 (mv 2)) fe_int) fa_nil)) (fun C cells s0 H0 ex pn hN => ⟨(fg_name (i := 0) hN rfl (by first | exact Or.inl rfl | exact Or.inr rfl)), fts_nil, (fe_callQ c__law_step_by (hr.mono (by decide)) rfl (fa_cons (fe_var 3 (mv 3)) (fa_cons (fe_op fo_add dCat_noX (fe_op fo_mulI (gI_noX _ _) fe_int (fe_var 1 (mv 1))) (fe_var 0 (mv 0))) (fa_cons (fe_var 2 (mv 2)) fa_nil))))⟩))⟩)))
    (fss_cons (fs_set (i := 6) sc.nd rfl (.inr rfl) (fe_fz (fe_callX c__law_cell_at (pa_cx hE) (hr.mono (by decide)) rfl (fa_cons (fe_var 0 (mv 0)) (fa_cons fe_int fa_nil)))))
    (fss_cons (fs_setF (fs_setComp (i := 8) sc.nd rfl (.inl rfl) rfl (CompScope.of (own := ["y"]) (cap := [("shut", 3), ("columns", 4), ("cell", 6)]) rfl (by decide +kernel) rfl rfl (by decide +kernel)) (fi_range1 rfl B.b_range (fa_cons (fe_op fo_sub (gI_noX _ _) (fe_var 5 (mv 5)) fe_int) fa_nil)) (fun C cells s0 H0 ex pn hN => ⟨(fg_name (i := 0) hN rfl (by first | exact Or.inl rfl | exact Or.inr rfl)), fts_nil, (fe_comp rfl (CompScope.of (own := ["x"]) (cap := [("y", 0), ("shut", 1), ("cell", 3)]) rfl (by decide +kernel) rfl rfl (by decide +kernel)) (fi_range1 rfl B.b_range (fa_cons (fe_var 2 (mv 2)) fa_nil)) (fun C cells s0 H0 ex pn hN => ⟨(fg_name (i := 0) hN rfl (by first | exact Or.inl rfl | exact Or.inr rfl)), fts_nil, (fe_callQ c__law_step_by (hr.mono (by decide)) rfl (fa_cons (fe_var 3 (mv 3)) (fa_cons (fe_op fo_add dCat_noX (fe_op fo_add dCat_noX fe_int (fe_op fo_mulI (gI_noX _ _) fe_int (fe_var 1 (mv 1)))) (fe_var 0 (mv 0))) (fa_cons (fe_var 2 (mv 2)) fa_nil))))⟩))⟩)))
    (fss_cons (fs_set (i := 9) sc.nd rfl (.inr rfl) (fe_fz (fe_op fo_add dCat_noX fe_int (fe_op fo_mod (gI_noX _ _) (fe_callX c__law_cell_at (pa_cx hE) (hr.mono (by decide)) rfl (fa_cons (fe_var 0 (mv 0)) (fa_cons fe_int fa_nil))) (fe_callB (fc_min2 rfl) cMin2_noX rfl B.b_min (by decide +kernel) (fa_cons (fe_var 2 (mv 2)) (fa_cons (fe_var 5 (mv 5)) fa_nil)))))))
    (fss_cons (fs_set (i := 10) sc.nd rfl (.inl rfl) (fe_fz (fe_callX c__law_rows_by (pa_cx hE) (hr.mono (by decide)) rfl (fa_cons (fe_callX c__law_cell_at (pa_cx hE) (hr.mono (by decide)) rfl (fa_cons (fe_var 0 (mv 0)) (fa_cons fe_int fa_nil))) (fa_cons (fe_var 9 (mv 9)) (fa_cons (fe_var 5 (mv 5)) fa_nil))))))
    (fss_cons (fs_set (i := 11) sc.nd rfl (.inl rfl) (fe_fz (fe_callX c__law_rows_by (pa_cx hE) (hr.mono (by decide)) rfl (fa_cons (fe_callX c__law_cell_at (pa_cx hE) (hr.mono (by decide)) rfl (fa_cons (fe_var 0 (mv 0)) (fa_cons fe_int fa_nil))) (fa_cons (fe_var 9 (mv 9)) (fa_cons (fe_var 5 (mv 5)) fa_nil))))))
    (fss_cons (fs_if (ft_cmp fo_gt (gI_noX _ _) (fe_op fo_mod (gI_noX _ _) (fe_callX c__law_cell_at (pa_cx hE) (hr.mono (by decide)) rfl (fa_cons (fe_var 0 (mv 0)) (fa_cons fe_int fa_nil))) fe_int) fe_int (nomark _)) (fss_cons (fs_set (i := 10) sc.nd rfl (.inl rfl) (fe_fz (fe_listR1 rfl rfl B.b_range rfl B.b_list (fa_cons (fe_var 9 (mv 9)) fa_nil))))
    (fss_one (fs_setF (fs_setComp (i := 11) sc.nd rfl (.inl rfl) rfl (CompScope.of (own := ["k"]) (cap := [("rows", 5), ("many", 9)]) rfl (by decide +kernel) rfl rfl (by decide +kernel)) (fi_range1 rfl B.b_range (fa_cons (fe_var 9 (mv 9)) fa_nil)) (fun C cells s0 H0 ex pn hN => ⟨(fg_name (i := 0) hN rfl (by first | exact Or.inl rfl | exact Or.inr rfl)), fts_nil, (fe_op fo_add dCat_noX (fe_op fo_sub (gI_noX _ _) (fe_var 1 (mv 1)) (fe_var 2 (mv 2))) (fe_var 0 (mv 0)))⟩))))) fss_nil)
    (fss_one (fs_ret (fe_tup (fa_cons (fe_var 7 (mv 7)) (fa_cons (fe_var 8 (mv 8)) (fa_cons (fe_var 10 (mv 10)) (fa_cons (fe_var 11 (mv 11)) fa_nil)))))))))))))))))
def g__law_hurt_rows (a : Ads) : FEnv → FOut :=
  (gSeq (gSet 2 (fCompX 1 [] (fiAny (fVar 0)) (tgName 0) ftTrue (fCB cList (faCons (fVar 0) faNil))))
  (gSeq (gSet 3 (fFz (f2 dMod (f2 dFdiv (fVar 1) (fC (.int 8))) (fCB cMax2 (faCons (fC (.int 1)) (faCons (fCB cLen (faCons (fVar 2) faNil)) faNil))))))
  (gSeq (gIf (ftOr (ft2 dEq (f2 dMod (fVar 1) (fC (.int 4))) (fC (.int 0))) (ft2 dEq (fCB cLen (faCons (fVar 2) faNil)) (fC (.int 0)))) (fun ρ => (gRet (f2 dCat (fVar 2) (fLst (faCons (fLst (faCons (fC (.int 1)) (faCons (fC (.int 2)) (faCons (fC (.int 3)) (faCons (fC (.int 4)) (faCons (fC (.int 5)) (faCons (fC (.int 6)) (faCons (fC (.int 7)) (faCons (fC (.int 8)) (faCons (fC (.int 9)) faNil)))))))))) faNil)))) (frzAt 2 ρ)) gSkip)
  (gSeq (gIf (ftAnd (ft2 dEq (f2 dMod (fVar 1) (fC (.int 4))) (fC (.int 1))) (ftAnd (ft2 dGt (fCB cLen (faCons (fVar 2) faNil)) (fC (.int 1))) (ft2 dGt (fCB cLen (faCons (f2 dIx (fVar 2) (fVar 3)) faNil)) (fC (.int 0))))) (gSeq (gPop2 2 3)
  (gRetV 2)) gSkip)
  (gSeq (gIf (ftOr (ft2 dLt (f2 dMod (fVar 1) (fC (.int 4))) (fC (.int 3))) (ft2 dEq (fCB cLen (faCons (f2 dIx (fVar 2) (fVar 3)) faNil)) (fC (.int 0)))) (fun ρ => (gRet (f2 dCat (f2 dCat (fSl (fVar 2) foN (foS (fVar 3))) (fLst (faCons (f2 dCat (f2 dIx (fVar 2) (fVar 3)) (f2 dRep (fLst (faCons (fC (.int 1)) faNil)) (f2 dIx (fLst (faCons (fC (.int 1)) (faCons (fC (.int 9)) faNil))) (fCB cInt (faCons (f2 dEq (fCB cLen (faCons (fVar 2) faNil)) (fC (.int 1))) faNil))))) faNil))) (fSl (fVar 2) (foS (f2 dCat (fVar 3) (fC (.int 1)))) foN))) (frzAt 2 ρ)) gSkip)
  (gSeq (gSet2E 2 3 (f2 dMod (f2 dFdiv (fVar 1) (fC (.int 64))) (fCB cLen (faCons (f2 dIx (fVar 2) (fVar 3)) faNil))) (f2 dIx (fLst (faCons (f1 dNeg (fC (.int 1))) (faCons (fC (.int 1001)) faNil))) (f2 dMod (f2 dFdiv (fVar 1) (fC (.int 600))) (fC (.int 2)))))
  (gRetV 2)))))))
def F__law_hurt_rows (a : Ads) : List D → Res D := bodyF 4 (g__law_hurt_rows a)
theorem sc__law_hurt_rows : FnScope ["rows", "cell", "found", "at"] ["rows", "cell"] (defScope (top 19)) := ⟨rfl, rfl, rfl, by decide +kernel, rfl, by decide +kernel, by decide +kernel⟩
theorem ok__law_hurt_rows (B : Bl K mg a) (U : Df K mg "_law_hurt_rows" (top 19) ["rows", "cell"])  : Cal P w K mg base "_law_hurt_rows" 2 (F__law_hurt_rows a) 1 := by
  refine dfx_ok (k := 0) (N := ["rows", "cell", "found", "at"]) U sc__law_hurt_rows fun f cdv A outer s H E Ex hE hr => ?_
  have sc := sc__law_hurt_rows
  exact (fss_cons (fs_setComp (i := 2) sc.nd rfl (.inl rfl) rfl (CompScope.of (own := ["row"]) (cap := []) rfl (by decide +kernel) rfl rfl (by decide +kernel)) (fi_any (fe_var 0 (mv 0))) (fun C cells s0 H0 ex pn hN => ⟨(fg_name (i := 0) hN rfl (by first | exact Or.inl rfl | exact Or.inr rfl)), fts_nil, (fe_callT fc_list cList_noX rfl B.b_list (by decide +kernel) (fa_cons (fe_var 0 (mv 0)) fa_nil))⟩))
    (fss_cons (fs_set (i := 3) sc.nd rfl (.inl rfl) (fe_fz (fe_op fo_mod (gI_noX _ _) (fe_op fo_fdiv (gI_noX _ _) (fe_var 1 (mv 1)) fe_int) (fe_callB (fc_max2 rfl) cMax2_noX rfl B.b_max (by decide +kernel) (fa_cons fe_int (fa_cons (fe_callB fc_len cLen_noX rfl B.b_len (by decide +kernel) (fa_cons (fe_var 2 (mv 2)) fa_nil)) fa_nil))))))
    (fss_cons (fs_if (FW.ft (fw_or (ft_cmp (fo_eq (hu4 hr)) dEq_noX (fe_op fo_mod (gI_noX _ _) (fe_var 1 (mv 1)) fe_int) fe_int (nomark _)) (fw_or1 (ft_cmp (fo_eq (hu4 hr)) dEq_noX (fe_callB fc_len cLen_noX rfl B.b_len (by decide +kernel) (fa_cons (fe_var 2 (mv 2)) fa_nil)) fe_int (nomark _))))) (fss_one (fs_frz 2 (fs_ret (fe_op fo_add dCat_noX (fe_var 2 (mv 2)) (fe_lst (fa_cons (fe_lst (fa_cons fe_int (fa_cons fe_int (fa_cons fe_int (fa_cons fe_int (fa_cons fe_int (fa_cons fe_int (fa_cons fe_int (fa_cons fe_int (fa_cons fe_int fa_nil)))))))))) fa_nil)))))) fss_nil)
    (fss_cons (fs_if (FW.ft (fw_and (ft_cmp (fo_eq (hu4 hr)) dEq_noX (fe_op fo_mod (gI_noX _ _) (fe_var 1 (mv 1)) fe_int) fe_int (nomark _)) (fw_and (ft_cmp fo_gt (gI_noX _ _) (fe_callB fc_len cLen_noX rfl B.b_len (by decide +kernel) (fa_cons (fe_var 2 (mv 2)) fa_nil)) fe_int (nomark _)) (fw_and1 (ft_cmp fo_gt (gI_noX _ _) (fe_callB fc_len cLen_noX rfl B.b_len (by decide +kernel) (fa_cons (fe_ix (fe_var 2 (mv 2)) (fe_var 3 (mv 3))) fa_nil)) fe_int (nomark _)))))) (fss_cons (fs_pop2 (mv 2) (mv 3))
    (fss_one (fs_retV 2 (mv 2)))) fss_nil)
    (fss_cons (fs_if (FW.ft (fw_or (ft_cmp fo_lt (gI_noX _ _) (fe_op fo_mod (gI_noX _ _) (fe_var 1 (mv 1)) fe_int) fe_int (nomark _)) (fw_or1 (ft_cmp (fo_eq (hu4 hr)) dEq_noX (fe_callB fc_len cLen_noX rfl B.b_len (by decide +kernel) (fa_cons (fe_ix (fe_var 2 (mv 2)) (fe_var 3 (mv 3))) fa_nil)) fe_int (nomark _))))) (fss_one (fs_frz 2 (fs_ret (fe_op fo_add dCat_noX (fe_op fo_add dCat_noX (fe_slice (fe_var 2 (mv 2)) fo_none (fo_some (fe_var 3 (mv 3)))) (fe_lst (fa_cons (fe_op fo_add dCat_noX (fe_ix (fe_var 2 (mv 2)) (fe_var 3 (mv 3))) (fe_op fo_rep dRep_noX (fe_lst (fa_cons fe_int fa_nil)) (fe_ix (fe_lst (fa_cons fe_int (fa_cons fe_int fa_nil))) (fe_callT fc_int cInt_noX rfl B.b_int (by decide +kernel) (fa_cons (fe_cmp (fo_eq (hu4 hr)) dEq_noX (fe_callB fc_len cLen_noX rfl B.b_len (by decide +kernel) (fa_cons (fe_var 2 (mv 2)) fa_nil)) fe_int (nomark _)) fa_nil))))) fa_nil))) (fe_slice (fe_var 2 (mv 2)) (fo_some (fe_op fo_add dCat_noX (fe_var 3 (mv 3)) fe_int)) fo_none))))) fss_nil)
    (fss_cons (fs_set2E (mv 2) (mv 3) (fe_op fo_mod (gI_noX _ _) (fe_op fo_fdiv (gI_noX _ _) (fe_var 1 (mv 1)) fe_int) (fe_callB fc_len cLen_noX rfl B.b_len (by decide +kernel) (fa_cons (fe_ix (fe_var 2 (mv 2)) (fe_var 3 (mv 3))) fa_nil))) (fe_ix (fe_lst (fa_cons (fe_neg fe_int) (fa_cons fe_int fa_nil))) (fe_op fo_mod (gI_noX _ _) (fe_op fo_fdiv (gI_noX _ _) (fe_var 1 (mv 1)) fe_int) fe_int)))
    (fss_one (fs_retV 2 (mv 2)))))))))
def g__law_hurt_list (a : Ads) : FEnv → FOut :=
  (gSeq (gIf (ft2 dEq (f2 dMod (fVar 2) (fC (.int 5))) (fC (.int 0))) (gRet (fLst faNil)) gSkip)
  (gSeq (gIf (ft2 dEq (f2 dMod (fVar 2) (fC (.int 5))) (fC (.int 1))) (gRet (f2 dCat (fVar 0) (fLst (faCons (f2 dIx (fVar 0) (f1 dNeg (fC (.int 1)))) faNil)))) gSkip)
  (gSeq (gIf (ft2 dEq (f2 dMod (fVar 2) (fC (.int 5))) (fC (.int 2))) (gRet (f2 dCat (fSl (fVar 0) foN (foS (f1 dNeg (fC (.int 1))))) (fLst (faCons (f2 dCat (fVar 1) (f2 dMod (f2 dFdiv (fVar 2) (fC (.int 5))) (fC (.int 3)))) faNil)))) gSkip)
  (gSeq (gIf (ft2 dEq (f2 dMod (fVar 2) (fC (.int 5))) (fC (.int 3))) (gRet (f2 dCat (fLst (faCons (f1 dNeg (fC (.int 1))) faNil)) (fSl (fVar 0) (foS (fC (.int 1))) foN))) gSkip)
  (gRet (fLst (faCons (fC (.int 0)) (faCons (fC (.int 1)) (faCons (fC (.int 2)) (faCons (fC (.int 3)) (faCons (fC (.int 4)) faNil)))))))))))
def F__law_hurt_list (a : Ads) : List D → Res D := bodyF 3 (g__law_hurt_list a)
theorem sc__law_hurt_list : FnScope ["numbers", "rows", "cell"] ["numbers", "rows", "cell"] (defScope (top 20)) := ⟨rfl, rfl, rfl, by decide +kernel, rfl, by decide +kernel, by decide +kernel⟩
theorem ok__law_hurt_list (B : Bl K mg a) (U : Df K mg "_law_hurt_list" (top 20) ["numbers", "rows", "cell"])  : Cal P w K mg base "_law_hurt_list" 3 (F__law_hurt_list a) 1 := by
  refine dfx_ok (k := 0) (N := ["numbers", "rows", "cell"]) U sc__law_hurt_list fun f cdv A outer s H E Ex hE hr => ?_
  have sc := sc__law_hurt_list
  exact (fss_cons (fs_if (ft_cmp (fo_eq (hu4 hr)) dEq_noX (fe_op fo_mod (gI_noX _ _) (fe_var 2 (mv 2)) fe_int) fe_int (nomark _)) (fss_one (fs_ret (fe_lst fa_nil))) fss_nil)
    (fss_cons (fs_if (ft_cmp (fo_eq (hu4 hr)) dEq_noX (fe_op fo_mod (gI_noX _ _) (fe_var 2 (mv 2)) fe_int) fe_int (nomark _)) (fss_one (fs_ret (fe_op fo_add dCat_noX (fe_var 0 (mv 0)) (fe_lst (fa_cons (fe_ix (fe_var 0 (mv 0)) (fe_neg fe_int)) fa_nil))))) fss_nil)
    (fss_cons (fs_if (ft_cmp (fo_eq (hu4 hr)) dEq_noX (fe_op fo_mod (gI_noX _ _) (fe_var 2 (mv 2)) fe_int) fe_int (nomark _)) (fss_one (fs_ret (fe_op fo_add dCat_noX (fe_slice (fe_var 0 (mv 0)) fo_none (fo_some (fe_neg fe_int))) (fe_lst (fa_cons (fe_op fo_add dCat_noX (fe_var 1 (mv 1)) (fe_op fo_mod (gI_noX _ _) (fe_op fo_fdiv (gI_noX _ _) (fe_var 2 (mv 2)) fe_int) fe_int)) fa_nil))))) fss_nil)
    (fss_cons (fs_if (ft_cmp (fo_eq (hu4 hr)) dEq_noX (fe_op fo_mod (gI_noX _ _) (fe_var 2 (mv 2)) fe_int) fe_int (nomark _)) (fss_one (fs_ret (fe_op fo_add dCat_noX (fe_lst (fa_cons (fe_neg fe_int) fa_nil)) (fe_slice (fe_var 0 (mv 0)) (fo_some fe_int) fo_none)))) fss_nil)
    (fss_one (fs_ret (fe_lst (fa_cons fe_int (fa_cons fe_int (fa_cons fe_int (fa_cons fe_int (fa_cons fe_int fa_nil))))))))))))
def g__law_hurt (a : Ads) : FEnv → FOut :=
  (gSeq (gSet 3 (fCB cList (faCons (fVar 0) faNil)))
  (gSeq (gIf (ft2 dLt (fVar 1) (fC (.int 2))) (gSetIx 3 (fVar 1) (fCallN 2 (F__law_hurt_rows a) (faCons (f2 dIx (fVar 0) (fVar 1)) (faCons (fVar 2) faNil)))) (gSetIx 3 (fVar 1) (fCallN 3 (F__law_hurt_list a) (faCons (f2 dIx (fVar 0) (fVar 1)) (faCons (fCB cLen (faCons (f2 dIx (fVar 0) (fC (.int 0))) faNil)) (faCons (fVar 2) faNil))))))
  (gRetV 3)))
def F__law_hurt (a : Ads) : List D → Res D := bodyF 4 (g__law_hurt a)
theorem sc__law_hurt : FnScope ["parts", "way", "cell", "found"] ["parts", "way", "cell"] (defScope (top 21)) := ⟨rfl, rfl, rfl, by decide +kernel, rfl, by decide +kernel, by decide +kernel⟩
theorem ok__law_hurt (B : Bl K mg a) (U : Df K mg "_law_hurt" (top 21) ["parts", "way", "cell"]) (c__law_hurt_list : Cal P w K mg base "_law_hurt_list" 3 (F__law_hurt_list a) 1) (c__law_hurt_rows : Cal P w K mg base "_law_hurt_rows" 2 (F__law_hurt_rows a) 1) : Cal P w K mg base "_law_hurt" 3 (F__law_hurt a) 2 := by
  refine dfx_ok (k := 1) (N := ["parts", "way", "cell", "found"]) U sc__law_hurt fun f cdv A outer s H E Ex hE hr => ?_
  have sc := sc__law_hurt
  exact (fss_cons (fs_set (i := 3) sc.nd rfl (.inl rfl) (fe_callT fc_list cList_noX rfl B.b_list (by decide +kernel) (fa_cons (fe_var 0 (mv 0)) fa_nil)))
    (fss_cons (fs_if (ft_cmp fo_lt (gI_noX _ _) (fe_var 1 (mv 1)) fe_int (nomark _)) (fss_one (fs_setIx (mv 3) (fe_callX c__law_hurt_rows (pa_cx hE) (hr.mono (by decide)) rfl (fa_cons (fe_ix (fe_var 0 (mv 0)) (fe_var 1 (mv 1))) (fa_cons (fe_var 2 (mv 2)) fa_nil))) (fe_var 1 (mv 1)))) (fss_one (fs_setIx (mv 3) (fe_callX c__law_hurt_list (pa_cx hE) (hr.mono (by decide)) rfl (fa_cons (fe_ix (fe_var 0 (mv 0)) (fe_var 1 (mv 1))) (fa_cons (fe_callB fc_len cLen_noX rfl B.b_len (by decide +kernel) (fa_cons (fe_ix (fe_var 0 (mv 0)) fe_int) fa_nil)) (fa_cons (fe_var 2 (mv 2)) fa_nil)))) (fe_var 1 (mv 1)))))
    (fss_one (fs_retV 3 (mv 3)))))
noncomputable def g_law (a : Ads) : FEnv → FOut :=
  (gSeq (gSet 1 (fFz (fCallN 4 (F__law_parts_by a) (faCons (fVar 0) (faCons (fC (.int 8)) (faCons (fC (.int 4)) (faCons (fC (.int 6)) faNil)))))))
  (gSeq (gSet 2 (fFz (f2 dEq (f2 dMod (fCallN 2 (F__law_cell_at a) (faCons (fVar 0) (faCons (fC (.int 8)) faNil))) (fC (.int 3))) (fC (.int 0)))))
  (gSeq (gSet 3 (fLst (faCons (fCompX 1 [] (fiAny (f2 dIx (fVar 1) (fC (.int 0)))) (tgName 0) ftTrue (fCB cList (faCons (fVar 0) faNil))) (faCons (fCompX 1 [] (fiAny (f2 dIx (fVar 1) (fC (.int 1)))) (tgName 0) ftTrue (fCB cList (faCons (fVar 0) faNil))) (faCons (fCB cList (faCons (f2 dIx (fVar 1) (fC (.int 2))) faNil)) (faCons (fCB cList (faCons (f2 dIx (fVar 1) (fC (.int 3))) faNil)) faNil))))))
  (gSeq (gIf (ftNot (ftB (fVar 2))) (fun ρ => (gSet 3 (fCallN 3 (F__law_hurt a) (faCons (fVar 3) (faCons (f2 dMod (f2 dFdiv (fCallN 2 (F__law_cell_at a) (faCons (fVar 0) (faCons (fC (.int 8)) faNil))) (fC (.int 3))) (fC (.int 4))) (faCons (fCallN 2 (F__law_cell_at a) (faCons (fVar 0) (faCons (fC (.int 9)) faNil))) faNil))))) (frzAt 3 ρ)) gSkip)
  (gSeq (gSet 4 (fFz (fCB cRepr (faCons (fVar 3) faNil))))
  (gNet 3 5 6 7 a.Net a.BadNet (I_Net a) (fAnd (fNot (fVar 2)) (fAnd (f1 (dIsX [a.BadNet] []) (fVar 6)) (fAnd (f1 (dIsX [a.BadNet] []) (fVar 6)) (f2 dEq (fCB cRepr (faCons (fVar 3) faNil)) (fVar 4))))) (ftOr (ftNot (ftB (fVar 2))) (ft2 dNe (fCB cRepr (faCons (fVar 3) faNil)) (fVar 4)))
  (gSeq (gIf (ftOr (ftNot (ftB (fCallN 1 (F__law_whole a) (faCons (f1 (dFld a.Net "columns") (fVar 5)) faNil)))) (ftNot (ftB (fCallN 1 (F__law_whole a) (faCons (f1 (dFld a.Net "rows") (fVar 5)) faNil))))) (gRet (fC (.bl false))) gSkip)
  (gSeq (gSet 8 (fFz (fTup (faCons (f1 (dFld a.Net "right") (fVar 5)) (faCons (f1 (dFld a.Net "up") (fVar 5)) (faCons (f1 (dFld a.Net "starts") (fVar 5)) (faCons (f1 (dFld a.Net "ends") (fVar 5)) faNil)))))))
  (gRet (fAnd (f2 dEq (fVar 8) (fVar 1)) (fAnd (f2 dEq (f1 (dFld a.Net "columns") (fVar 5)) (f2 dCat (fCB cLen (faCons (f2 dIx (f2 dIx (fVar 1) (fC (.int 0))) (fC (.int 0))) faNil)) (fC (.int 1)))) (f2 dEq (f1 (dFld a.Net "rows") (fVar 5)) (fCB cLen (faCons (f2 dIx (fVar 1) (fC (.int 0))) faNil))))))))))))))
noncomputable def F_law (a : Ads) : List D → Res D := bodyF 9 (g_law a)
theorem sc_law : FnScope ["script", "parts", "good", "given", "kept", "net", "e", "row", "told"] ["script"] (defScope (top 22)) := ⟨rfl, rfl, rfl, by decide +kernel, rfl, by decide +kernel, by decide +kernel⟩
theorem okf_law (B : Bl K mg a) {f : Addr} {fd : FuncData} (U : Fun K "law" "law" (top 22) f fd) (c_Net : MakN P w K mg base "Net" a.Net 4 (I_Net a) 2) (c__law_cell_at : Cal P w K mg base "_law_cell_at" 2 (F__law_cell_at a) 1) (c__law_hurt : Cal P w K mg base "_law_hurt" 3 (F__law_hurt a) 2) (c__law_parts_by : Cal P w K mg base "_law_parts_by" 4 (F__law_parts_by a) 3) (c__law_whole : Cal P w K mg base "_law_whole" 1 (F__law_whole a) 1) : FnOk P w K mg base (CXm P w) 4 f fd ["script"] (spF 1 (F_law a)) := by
  refine dfx_fn (k := 3) (N := ["script", "parts", "good", "given", "kept", "net", "e", "row", "told"]) U sc_law fun f cdv A outer s H E Ex hE hr => ?_
  have sc := sc_law
  exact (fss_cons (fs_set (i := 1) sc.nd rfl (.inl rfl) (fe_fz (fe_callX c__law_parts_by (pa_cx hE) (hr.mono (by decide)) rfl (fa_cons (fe_var 0 (mv 0)) (fa_cons fe_int (fa_cons fe_int (fa_cons fe_int fa_nil)))))))
    (fss_cons (fs_set (i := 2) sc.nd rfl (.inl rfl) (fe_fz (fe_cmp (fo_eq (hu4 hr)) dEq_noX (fe_op fo_mod (gI_noX _ _) (fe_callX c__law_cell_at (pa_cx hE) (hr.mono (by decide)) rfl (fa_cons (fe_var 0 (mv 0)) (fa_cons fe_int fa_nil))) fe_int) fe_int (nomark _))))
    (fss_cons (fs_set (i := 3) sc.nd rfl (.inl rfl) (fe_lst (fa_cons (fe_comp rfl (CompScope.of (own := ["row"]) (cap := []) rfl (by decide +kernel) rfl rfl (by decide +kernel)) (fi_any (fe_ix (fe_var 1 (mv 1)) fe_int)) (fun C cells s0 H0 ex pn hN => ⟨(fg_name (i := 0) hN rfl (by first | exact Or.inl rfl | exact Or.inr rfl)), fts_nil, (fe_callT fc_list cList_noX rfl B.b_list (by decide +kernel) (fa_cons (fe_var 0 (mv 0)) fa_nil))⟩)) (fa_cons (fe_comp rfl (CompScope.of (own := ["row"]) (cap := []) rfl (by decide +kernel) rfl rfl (by decide +kernel)) (fi_any (fe_ix (fe_var 1 (mv 1)) fe_int)) (fun C cells s0 H0 ex pn hN => ⟨(fg_name (i := 0) hN rfl (by first | exact Or.inl rfl | exact Or.inr rfl)), fts_nil, (fe_callT fc_list cList_noX rfl B.b_list (by decide +kernel) (fa_cons (fe_var 0 (mv 0)) fa_nil))⟩)) (fa_cons (fe_callT fc_list cList_noX rfl B.b_list (by decide +kernel) (fa_cons (fe_ix (fe_var 1 (mv 1)) fe_int) fa_nil)) (fa_cons (fe_callT fc_list cList_noX rfl B.b_list (by decide +kernel) (fa_cons (fe_ix (fe_var 1 (mv 1)) fe_int) fa_nil)) fa_nil))))))
    (fss_cons (fs_if (ft_not (ft_val (fe_var 2 (mv 2)))) (fss_one (fs_frz 3 (fs_set (i := 3) sc.nd rfl (.inl rfl) (fe_callX c__law_hurt (pa_cx hE) (hr.mono (by decide)) rfl (fa_cons (fe_var 3 (mv 3)) (fa_cons (fe_op fo_mod (gI_noX _ _) (fe_op fo_fdiv (gI_noX _ _) (fe_callX c__law_cell_at (pa_cx hE) (hr.mono (by decide)) rfl (fa_cons (fe_var 0 (mv 0)) (fa_cons fe_int fa_nil))) fe_int) fe_int) (fa_cons (fe_callX c__law_cell_at (pa_cx hE) (hr.mono (by decide)) rfl (fa_cons (fe_var 0 (mv 0)) (fa_cons fe_int fa_nil))) fa_nil))))))) fss_nil)
    (fss_cons (fs_set (i := 4) sc.nd rfl (.inl rfl) (fe_fz (fe_callB (fc_repr hr.gd (hu16 hr)) cRepr_noX rfl B.b_repr (by decide +kernel) (fa_cons (fe_var 3 (mv 3)) fa_nil))))
    (fss_net (i := 3) (m := 5) (ie := 6) (ir := 7) (by decide) (by decide) (by decide)
    (ps_tryN B.x_BadNet.bound B.m_BadNet_BadNet sc.nd rfl rfl rfl rfl rfl rfl rfl (.inl rfl) c_Net (hr.mono (by decide)) rfl (fun E2 pn2 => (pa_cons (pe_ix ix_list (mv 3).go pe_int (by intro _ _; rfl)) (pa_cons (pe_ix ix_list (mv 3).go pe_int (by intro _ _; rfl)) (pa_cons (pe_ix ix_list (mv 3).go pe_int (by intro _ _; rfl)) (pa_cons (pe_ix ix_list (mv 3).go pe_int (by intro _ _; rfl)) pa_nil rfl) rfl) rfl) rfl)) (fun a2 E2 => (fe_and (fe_not (fe_var 2 (mv 2))) (fe_and (fe_isX (vT := .ref a.WalkError) (tv := .ref a.WalkError) (yes := [a.BadNet]) (no := []) (fun _ h => h) (pe_glob rfl B.x_WalkError.bound rfl (by decide)) (al1 ⟨B.q_BadNet, B.kx_BadNet_WalkError⟩ al0) al0 (fe_var 6 (mv 6)) rfl B.b_isinstance) (fe_and (fe_isX (vT := .ty "ValueError") (tv := .type "ValueError") (yes := [a.BadNet]) (no := []) (fun _ h => h) (pe_bltn rfl B.b_ValueError (by decide +kernel) rfl (by decide) (by decide)) (al1 ⟨B.q_BadNet, B.kx_BadNet_ValueError⟩ al0) al0 (fe_var 6 (mv 6)) rfl B.b_isinstance) (fe_one (fe_cmp (fo_eq (have h := hu4 hr; h)) dEq_noX (fe_callB (fc_repr (have h := hr.gd; h) (have h := hu16 hr; h)) cRepr_noX rfl B.b_repr (by decide +kernel) (fa_cons (fe_var 3 (mv 3)) fa_nil)) (fe_var 4 (mv 4)) (nomark _))))))) rfl (by first | exact .inl rfl | exact .inr rfl) (by decide) (by decide) rfl rfl)
    (FW.ft (fw_or (ft_not (ft_val (fe_var 2 (mv 2)))) (fw_or1 (ft_cmp (fo_ne (hu4 hr)) dNe_noX (fe_callB (fc_repr hr.gd (hu16 hr)) cRepr_noX rfl B.b_repr (by decide +kernel) (fa_cons (fe_var 3 (mv 3)) fa_nil)) (fe_var 4 (mv 4)) (nomark _)))))
    (ps_app (pe_ix ix_list (pe_ix ix_list (mv 3).go pe_int (by intro _ _; rfl)) pe_int (by intro _ _; rfl)) pe_int rfl rfl rfl rfl rfl rfl) (ps_for po_cx.go rfl (pi_list (pe_ix ix_list (mv 3).go pe_int (by intro _ _; rfl))) (pg_name sc.nd rfl (.inl rfl)) (pss_one (ps_app (mv 7).go pe_int rfl rfl rfl rfl rfl rfl))) (ps_app (pe_ix ix_list (mv 3).go pe_int (by intro _ _; rfl)) (pe_lst pa_nil) rfl rfl rfl rfl rfl rfl) (ps_app (pe_ix ix_list (mv 3).go pe_int (by intro _ _; rfl)) pe_int rfl rfl rfl rfl rfl rfl) (ps_clr (pe_ix ix_list (mv 3).go pe_int (by intro _ _; rfl)) rfl rfl rfl)
    (fss_cons (fs_if (FW.ft (fw_or (ft_not (ft_val (fe_callX c__law_whole (pa_cx hE) (hr.mono (by decide)) rfl (fa_cons (fe_fld (fe_var 5 (mv 5)) B.cl_Net B.na_Net_columns) fa_nil)))) (fw_or1 (ft_not (ft_val (fe_callX c__law_whole (pa_cx hE) (hr.mono (by decide)) rfl (fa_cons (fe_fld (fe_var 5 (mv 5)) B.cl_Net B.na_Net_rows) fa_nil))))))) (fss_one (fs_ret fe_bl)) fss_nil)
    (fss_cons (fs_set (i := 8) sc.nd rfl (.inl rfl) (fe_fz (fe_tup (fa_cons (fe_fld (fe_var 5 (mv 5)) B.cl_Net B.na_Net_right) (fa_cons (fe_fld (fe_var 5 (mv 5)) B.cl_Net B.na_Net_up) (fa_cons (fe_fld (fe_var 5 (mv 5)) B.cl_Net B.na_Net_starts) (fa_cons (fe_fld (fe_var 5 (mv 5)) B.cl_Net B.na_Net_ends) fa_nil)))))))
    (fss_one (fs_ret (fe_and (fe_cmp (fo_eq (hu4 hr)) dEq_noX (fe_var 8 (mv 8)) (fe_var 1 (mv 1)) (nomark _)) (fe_and (fe_cmp (fo_eq (hu4 hr)) dEq_noX (fe_fld (fe_var 5 (mv 5)) B.cl_Net B.na_Net_columns) (fe_op fo_add dCat_noX (fe_callB fc_len cLen_noX rfl B.b_len (by decide +kernel) (fa_cons (fe_ix (fe_ix (fe_var 1 (mv 1)) fe_int) fe_int) fa_nil)) fe_int) (nomark _)) (fe_one (fe_cmp (fo_eq (hu4 hr)) dEq_noX (fe_fld (fe_var 5 (mv 5)) B.cl_Net B.na_Net_rows) (fe_callB fc_len cLen_noX rfl B.b_len (by decide +kernel) (fa_cons (fe_ix (fe_var 1 (mv 1)) fe_int) fa_nil)) (nomark _)))))))))))))))
end Lw
namespace Lw
open PySem PySem.Spec L2 Mi
open PyProof.Rows hiding St
theorem ar1 {p : List Value → Prop} (h : ∀ a : Value, p [a]) : ∀ us : List Value, us.length = 1 → p us := by
  intro us hl
  cases us with
  | nil => cases hl
  | cons a us =>
  cases us with
  | nil => exact h a
  | cons z us => simp at hl
theorem ar2 {p : List Value → Prop} (h : ∀ a b : Value, p [a, b]) : ∀ us : List Value, us.length = 2 → p us := by
  intro us hl
  cases us with
  | nil => cases hl
  | cons a us =>
  cases us with
  | nil => cases hl
  | cons b us =>
  cases us with
  | nil => exact h a b
  | cons z us => simp at hl
theorem ar3 {p : List Value → Prop} (h : ∀ a b c : Value, p [a, b, c]) : ∀ us : List Value, us.length = 3 → p us := by
  intro us hl
  cases us with
  | nil => cases hl
  | cons a us =>
  cases us with
  | nil => cases hl
  | cons b us =>
  cases us with
  | nil => cases hl
  | cons c us =>
  cases us with
  | nil => exact h a b c
  | cons z us => simp at hl
theorem ar4 {p : List Value → Prop} (h : ∀ a b c d : Value, p [a, b, c, d]) : ∀ us : List Value, us.length = 4 → p us := by
  intro us hl
  cases us with
  | nil => cases hl
  | cons a us =>
  cases us with
  | nil => cases hl
  | cons b us =>
  cases us with
  | nil => cases hl
  | cons c us =>
  cases us with
  | nil => cases hl
  | cons d us =>
  cases us with
  | nil => exact h a b c d
  | cons z us => simp at hl
theorem ar5 {p : List Value → Prop} (h : ∀ a b c d e : Value, p [a, b, c, d, e]) : ∀ us : List Value, us.length = 5 → p us := by
  intro us hl
  cases us with
  | nil => cases hl
  | cons a us =>
  cases us with
  | nil => cases hl
  | cons b us =>
  cases us with
  | nil => cases hl
  | cons c us =>
  cases us with
  | nil => cases hl
  | cons d us =>
  cases us with
  | nil => cases hl
  | cons e us =>
  cases us with
  | nil => exact h a b c d e
  | cons z us => simp at hl
theorem all_mk (main : ∀ a, ∀ ns, List.length ns ≤ 63 → F_law a [.scr ns] = .ok (.bl true)) {l : PySem.W.OpenLaw} {w : World} {K : PySem.W.Frag} {h : Heap} {mg : Str → Option Value} {fa : Addr} (X : K.In h) (G : h.Ns mainGlobals mg) (hfa : mg "law" = some (.ref fa))
    {A_0 A_2 A_1 : Addr}
    {f_1 : Addr} {od_1 an_1 : Option Addr} {sl_1 : Array (Option Value)} {oc_1 kV_1 dc_1 pm_1 cd_1 ct_1 : Value}
    {f_law : Addr} {od_law an_law : Option Addr} {sl_law : Array (Option Value)} {oc_law kV_law dc_law pm_law cd_law ct_law : Value}
    {t_MOST_SIDE : Tok}
    {t_MOST_WALKERS : Tok}
    {t_MOST_WEIGHT : Tok}
    (g_0 : PySem.W.nsIn K mainGlobals "BadNet" = some (some (.ref A_0)))
    (e_0 : PySem.W.excIn K A_0 veMro "ValueError.__new__" = true)
    (g_2 : PySem.W.nsIn K mainGlobals "WalkError" = some (some (.ref A_2)))
    (e_2 : PySem.W.excIn K A_2 veMro "ValueError.__new__" = true)
    (q_BadNet : xcAsk K A_0 = true)
    (kx_BadNet_ValueError : PySem.W.kitOne K (.ref A_0) (.type "ValueError") = some true)
    (kx_BadNet_WalkError : PySem.W.kitOne K (.ref A_0) (.ref A_2) = some true)
    (m_BadNet_BadNet : PySem.W.exmOne K (.ref A_0) (.ref A_0) = some true)
    (g_1 : PySem.W.nsIn K mainGlobals "Net" = some (some (.ref A_1)))
    (i_1 : PySem.W.findIn K (.ref A_1) "__init__" = some (some (.ref f_1)))
    (n_1 : PySem.W.isFn K (.ref f_1) = true)
    (l_1 : K.lookup f_1 = some ⟨oc_1, od_1, .func (PySem.W.fnOf "__init__" "Net.__init__" (defArgs (inTop 10 0)) (defBody (inTop 10 0)) (defScope (inTop 10 0)) .none kV_1 dc_1 pm_1 an_1 cd_1 ct_1), sl_1⟩)
    (c_1 : PySem.W.codeIn K cd_1 "Net.__init__" = true)
    (k_1 : PySem.W.keepIn K (.ref f_1) = true)
    (pg_1 : PySem.W.plainGet K A_1 Str.empty = true)
    (hd_1 : PySem.W.hasDictIn K A_1 = true)
    (po_1 : PySem.W.plainOver K A_1 = true)
    (sa_1 : PySem.W.findIn K (.ref A_1) "__setattr__" = some (some (.builtin "object.__setattr__")))
    (mk_1 : PySem.W.makesIn K A_1 = true)
    (kc_1 : PySem.W.keepIn K (.ref A_1) = true)
    (na_Net_columns : PySem.W.findIn K (.ref A_1) "columns" = some none)
    (na_Net_ends : PySem.W.findIn K (.ref A_1) "ends" = some none)
    (na_Net_right : PySem.W.findIn K (.ref A_1) "right" = some none)
    (na_Net_rows : PySem.W.findIn K (.ref A_1) "rows" = some none)
    (na_Net_starts : PySem.W.findIn K (.ref A_1) "starts" = some none)
    (na_Net_up : PySem.W.findIn K (.ref A_1) "up" = some none)
    (U_13 : Df K mg "check_side" (top 7) ["length"])
    (U_14 : Df K mg "check_steps" (top 8) ["lists", "count", "length"])
    (U_12 : Df K mg "check_border" (top 9) ["chosen", "rows"])
    (U_3 : Df K mg "_law_cell_at" (top 12) ["script", "k"])
    (U_7 : Df K mg "_law_mix" (top 13) ["cell", "k", "many"])
    (U_11 : Df K mg "_law_whole" (top 14) ["found"])
    (U_9 : Df K mg "_law_rows_by" (top 15) ["cell", "many", "rows"])
    (U_10 : Df K mg "_law_step_by" (top 16) ["cell", "k", "shut"])
    (U_8 : Df K mg "_law_parts_by" (top 17) ["script", "most", "walkers", "shut"])
    (U_6 : Df K mg "_law_hurt_rows" (top 19) ["rows", "cell"])
    (U_5 : Df K mg "_law_hurt_list" (top 20) ["numbers", "rows", "cell"])
    (U_4 : Df K mg "_law_hurt" (top 21) ["parts", "way", "cell"])
    (g_law : PySem.W.nsIn K mainGlobals "law" = some (some (.ref f_law)))
    (l_law : K.lookup f_law = some ⟨oc_law, od_law, .func (PySem.W.fnOf "law" "law" (defArgs (top 22)) (defBody (top 22)) (defScope (top 22)) .none kV_law dc_law pm_law an_law cd_law ct_law), sl_law⟩)
    (c_law : PySem.W.codeIn K cd_law "law" = true)
    (k_law : PySem.W.keepIn K (.ref f_law) = true)
    (b_ValueError : PySem.W.nsIn K mainGlobals "ValueError" = some none)
    (b_all : PySem.W.nsIn K mainGlobals "all" = some none)
    (b_bool : PySem.W.nsIn K mainGlobals "bool" = some none)
    (b_int : PySem.W.nsIn K mainGlobals "int" = some none)
    (b_isinstance : PySem.W.nsIn K mainGlobals "isinstance" = some none)
    (b_len : PySem.W.nsIn K mainGlobals "len" = some none)
    (b_list : PySem.W.nsIn K mainGlobals "list" = some none)
    (b_max : PySem.W.nsIn K mainGlobals "max" = some none)
    (b_min : PySem.W.nsIn K mainGlobals "min" = some none)
    (b_range : PySem.W.nsIn K mainGlobals "range" = some none)
    (b_repr : PySem.W.nsIn K mainGlobals "repr" = some none)
    (b_sorted : PySem.W.nsIn K mainGlobals "sorted" = some none)
    (v_MOST_SIDE : PySem.W.nsIn K mainGlobals "MOST_SIDE" = some (some (.int 8 t_MOST_SIDE)))
    (v_MOST_WALKERS : PySem.W.nsIn K mainGlobals "MOST_WALKERS" = some (some (.int 4 t_MOST_WALKERS)))
    (v_MOST_WEIGHT : PySem.W.nsIn K mainGlobals "MOST_WEIGHT" = some (some (.int 1000 t_MOST_WEIGHT)))
    (kt_bool_NoneType : PySem.W.kitOne K (.type "NoneType") (.type "bool") = some false)
    (kt_bool_bool : PySem.W.kitOne K (.type "bool") (.type "bool") = some true)
    (kt_bool_int : PySem.W.kitOne K (.type "int") (.type "bool") = some false)
    (kt_bool_str : PySem.W.kitOne K (.type "str") (.type "bool") = some false)
    (kt_bool_list : PySem.W.kitOne K (.type "list") (.type "bool") = some false)
    (kt_bool_tuple : PySem.W.kitOne K (.type "tuple") (.type "bool") = some false)
    (kt_bool_dict : PySem.W.kitOne K (.type "dict") (.type "bool") = some false)
    (kt_int_NoneType : PySem.W.kitOne K (.type "NoneType") (.type "int") = some false)
    (kt_int_bool : PySem.W.kitOne K (.type "bool") (.type "int") = some true)
    (kt_int_int : PySem.W.kitOne K (.type "int") (.type "int") = some true)
    (kt_int_str : PySem.W.kitOne K (.type "str") (.type "int") = some false)
    (kt_int_list : PySem.W.kitOne K (.type "list") (.type "int") = some false)
    (kt_int_tuple : PySem.W.kitOne K (.type "tuple") (.type "int") = some false)
    (kt_int_dict : PySem.W.kitOne K (.type "dict") (.type "int") = some false)
    (nl : noList K = true) :
    ∃ Fl : List D → Res D, (∀ ns : List Int, ns.length ≤ 63 → Fl [.scr ns] = .ok (.bl true)) ∧ noList K = true ∧ ∃ fd : FuncData, (∀ (s : Shared) (v : Value), BindsTo s fd ⟨[v], []⟩ [("script", v)]) ∧ ∀ base : Heap, K.In base → base.Ns mainGlobals mg → FnOk l.prog w K mg base (CXm l.prog w) 4 fa fd ["script"] (spF 1 Fl) := by
  have B : Bl K mg ⟨A_0, A_2, A_1⟩ := ⟨PySem.W.mg_none_of X G b_ValueError, PySem.W.mg_none_of X G b_all, PySem.W.mg_none_of X G b_bool, PySem.W.mg_none_of X G b_int, PySem.W.mg_none_of X G b_isinstance, PySem.W.mg_none_of X G b_len, PySem.W.mg_none_of X G b_list, PySem.W.mg_none_of X G b_max, PySem.W.mg_none_of X G b_min, PySem.W.mg_none_of X G b_range, PySem.W.mg_none_of X G b_repr, PySem.W.mg_none_of X G b_sorted, ⟨_, PySem.W.mg_of X G v_MOST_SIDE⟩, ⟨_, PySem.W.mg_of X G v_MOST_WALKERS⟩, ⟨_, PySem.W.mg_of X G v_MOST_WEIGHT⟩, kt7 kt_bool_NoneType kt_bool_bool kt_bool_int kt_bool_str kt_bool_list kt_bool_tuple kt_bool_dict, kt7 kt_int_NoneType kt_int_bool kt_int_int kt_int_str kt_int_list kt_int_tuple kt_int_dict, xcls_top X G g_0 e_0, xcls_top X G g_2 e_2, q_BadNet, kx_BadNet_ValueError, kx_BadNet_WalkError, m_BadNet_BadNet, ⟨pg_1, hd_1, po_1, sa_1⟩, na_Net_columns, na_Net_ends, na_Net_right, na_Net_rows, na_Net_starts, na_Net_up⟩
  have F_Net := fun_mk (st := inTop 10 0) l_1 c_1 k_1
  have b_Net := F_Net.binds (ps := ["self", "right", "up", "starts", "ends"]) (fun _ _ _ _ _ _ => ar5 fun _ _ _ _ _ => rfl)
  have e := hfa.symm.trans (PySem.W.mg_of X G g_law)
  cases e
  have UL := fun_mk (st := top 22) l_law c_law k_law
  refine ⟨F_law ⟨A_0, A_2, A_1⟩, main ⟨A_0, A_2, A_1⟩, nl, PySem.W.fnOf "law" "law" (defArgs (top 22)) (defBody (top 22)) (defScope (top 22)) .none kV_law dc_law pm_law an_law cd_law ct_law, fun s v => .of_eq rfl, fun base _ _ => ?_⟩
  have C_13 := ok_check_side (P := l.prog) (w := w) (base := base) B U_13 
  have C_14 := ok_check_steps (P := l.prog) (w := w) (base := base) B U_14 
  have C_12 := ok_check_border (P := l.prog) (w := w) (base := base) B U_12 
  have C_1 := ok_Net (P := l.prog) (w := w) (base := base) B ⟨f_1, _, F_Net, PySem.W.mg_of X G g_1, ⟨mk_1, i_1, n_1, kc_1⟩, b_Net⟩ C_12 C_13 C_14
  have C_3 := ok__law_cell_at (P := l.prog) (w := w) (base := base) B U_3 
  have C_7 := ok__law_mix (P := l.prog) (w := w) (base := base) B U_7 
  have C_11 := ok__law_whole (P := l.prog) (w := w) (base := base) B U_11 
  have C_9 := ok__law_rows_by (P := l.prog) (w := w) (base := base) B U_9 C_7
  have C_10 := ok__law_step_by (P := l.prog) (w := w) (base := base) B U_10 C_7
  have C_8 := ok__law_parts_by (P := l.prog) (w := w) (base := base) B U_8 C_3 C_9 C_10
  have C_6 := ok__law_hurt_rows (P := l.prog) (w := w) (base := base) B U_6 
  have C_5 := ok__law_hurt_list (P := l.prog) (w := w) (base := base) B U_5 
  have C_4 := ok__law_hurt (P := l.prog) (w := w) (base := base) B U_4 C_5 C_6
  exact okf_law (P := l.prog) (w := w) (base := base) B UL C_1 C_3 C_4 C_8 C_11
end Lw
namespace Lw
open Mi PySem
section
theorem bok {α β : Type} (a : α) (f : α → Res β) : (Res.ok a >>= f) = f a := rfl
theorem bbad {α β : Type} (f : α → Res β) : ((Res.bad : Res α) >>= f) = .bad := rfl
theorem bexc {α β : Type} (C : Value) (f : α → Res β) : ((Res.exc C : Res α) >>= f) = .exc C := rfl
theorem aok {α : Type} (a : α) (k : α → FOut) : aft (Res.ok a) k = k a := rfl
theorem aexc {α : Type} (C : Value) (k : α → FOut) : aft (Res.exc C : Res α) k = .exc C := rfl
theorem tag_int (i : Int) : (D.int i).tag = .f := rfl
theorem tag_str (i : Str) : (D.str i).tag = .f := rfl
theorem tag_bl (i : Bool) : (D.bl i).tag = .f := rfl
theorem tag_non : D.non.tag = .f := rfl
theorem tag_tup (i : List D) : (D.tup i).tag = .f := rfl
theorem tag_lst (t : Tg) (i : List D) : (D.lst t i).tag = t := rfl
theorem tag_ins (t : Tg) (C : Addr) (i) : (D.ins t C i).tag = t := rfl
theorem tag_scr (i : List Int) : (D.scr i).tag = .f := rfl
theorem rd_int (i : Int) : (D.int i).rd = .int i := rfl
theorem rd_str (i : Str) : (D.str i).rd = .str i := rfl
theorem rd_bl (i : Bool) : (D.bl i).rd = .bl i := rfl
theorem rd_non : D.non.rd = .non := rfl
theorem rd_tup (i : List D) : (D.tup i).rd = .tup i := rfl
theorem rd_lsf (i : List D) : (D.lst .f i).rd = .lst .f i := rfl
theorem rd_lso (i : List D) : (D.lst .o i).rd = .lst .b i := rfl
theorem rd_scr (i : List Int) : (D.scr i).rd = .scr i := rfl
theorem rd_insf (C : Addr) (i) : (D.ins .f C i).rd = .ins .f C i := rfl
theorem rd_slf (p C : Addr) (i) : (D.slf p C i).rd = .ins .b C i := rfl
theorem fz_int (i : Int) : (D.int i).fz = .int i := rfl
theorem fz_str (i : Str) : (D.str i).fz = .str i := rfl
theorem fz_bl (i : Bool) : (D.bl i).fz = .bl i := rfl
theorem fz_non : D.non.fz = .non := rfl
theorem fz_tup (i : List D) : (D.tup i).fz = .tup (D.fzs i) := rfl
theorem fz_lst (t : Tg) (i : List D) : (D.lst t i).fz = .lst .f (D.fzs i) := rfl
theorem fz_ins (t : Tg) (C : Addr) (i) : (D.ins t C i).fz = .ins .f C i := rfl
theorem fzs_nil : D.fzs [] = [] := rfl
theorem fzs_cons (x : D) (r : List D) : D.fzs (x :: r) = x.fz :: D.fzs r := rfl
theorem o_cat (i j : Int) : dCat (.int i) (.int j) = .ok (.int (i + j)) := rfl
theorem o_sub (i j : Int) : dSub (.int i) (.int j) = .ok (.int (i - j)) := rfl
theorem o_mul (i j : Int) (h : -(2 ^ 64) < j ∧ j < 2 ^ 64) : dMulI (.int i) (.int j) = .ok (.int (i * j)) := by
  unfold dMulI gI
  simp only
  rw [if_pos (by rw [Bool.or_eq_true]; right; rw [Bool.and_eq_true, decide_eq_true_eq, decide_eq_true_eq]; exact h)]
theorem o_mul' (i j : Int) (h : -(2 ^ 64) < i ∧ i < 2 ^ 64) : dMulI (.int i) (.int j) = .ok (.int (i * j)) := by
  unfold dMulI gI
  simp only
  rw [if_pos (by rw [Bool.or_eq_true]; left; rw [Bool.and_eq_true, decide_eq_true_eq, decide_eq_true_eq]; exact h)]
theorem o_mod (i j : Int) (h : 0 < j) : dMod (.int i) (.int j) = .ok (.int (i % j)) := by
  unfold dMod gI
  simp only
  rw [if_pos (by simpa using h)]
theorem o_fdiv (i j : Int) (h : 0 < j ∧ j < 1073741824) : dFdiv (.int i) (.int j) = .ok (.int (i / j)) := by
  unfold dFdiv gI
  simp only
  rw [if_pos (by rw [Bool.and_eq_true, decide_eq_true_eq, decide_eq_true_eq]; exact h)]
theorem o_lenS (ns : List Int) : cLen [.scr ns] = .ok (.int ns.length) := rfl
theorem o_lt (i j : Int) : dLt (.int i) (.int j) = .ok (.bl (decide (i < j))) := rfl
theorem o_le (i j : Int) : dLe (.int i) (.int j) = .ok (.bl (decide (i ≤ j))) := rfl
theorem o_gt (i j : Int) : dGt (.int i) (.int j) = .ok (.bl (decide (j < i))) := rfl
theorem o_ge (i j : Int) : dGe (.int i) (.int j) = .ok (.bl (decide (j ≤ i))) := rfl
theorem bnf (b : Bool) : (false != b) = b := by cases b <;> rfl
theorem o_eqi (i j : Int) : dEq (.int i) (.int j) = .ok (.bl (decide (i = j))) := congrArg (fun b => Res.ok (D.bl b)) (bnf _)
theorem o_eqs (i j : Str) : dEq (.str i) (.str j) = .ok (.bl (decide (i = j))) := congrArg (fun b => Res.ok (D.bl b)) (bnf _)
theorem o_nei (i j : Int) : dEqS true (.int i) (.int j) = .ok (.bl (!decide (i = j))) := congrArg (fun b => Res.ok (D.bl b)) (by cases decide (i = j) <;> rfl)
theorem o_asB (b : Bool) : asB (.bl b) = .ok b := rfl
theorem ntb {t : Tg} (h : (t == .b) = false) : t ≠ .b := by
  intro z
  subst z
  cases h
theorem beq_fb : (Tg.f == Tg.b) = false := rfl
theorem beq_ob : (Tg.o == Tg.b) = false := rfl
theorem fVar_at (i : Nat) (ρ : FEnv) (d : D) (h : ρ[i]? = some (some d)) : fVar i ρ = .ok d.rd := by unfold fVar; rw [h]
end
end Lw
local macro_rules | `(tactic| simp_arith [$ts,*]) => `(tactic| simp only [Lw.bok, Lw.bbad, Lw.bexc, Lw.aok, Lw.aexc, Mi.bodyF, Mi.gSeq, Mi.gIf, Mi.gSet, Mi.gRet, Mi.gSkip, Mi.ft2, Mi.ftB, Mi.ftNot, Mi.f2, Mi.f1, Mi.fC, Mi.fFz, Mi.fVar, Mi.fCB, Mi.faCons, Mi.faNil, Mi.fLst, Mi.fTup, Mi.nb, List.all_cons, List.all_nil, List.length_cons, List.length_nil, List.map_cons, List.map_nil, Lw.tag_int, Lw.tag_str, Lw.tag_bl, Lw.tag_non, Lw.tag_tup, Lw.tag_lst, Lw.tag_ins, Lw.tag_scr, Lw.rd_int, Lw.rd_str, Lw.rd_bl, Lw.rd_non, Lw.rd_tup, Lw.rd_lsf, Lw.rd_lso, Lw.rd_scr, Lw.rd_insf, Lw.rd_slf, Lw.fz_int, Lw.fz_str, Lw.fz_bl, Lw.fz_non, Lw.fz_tup, Lw.fz_lst, Lw.fz_ins, Lw.fzs_nil, Lw.fzs_cons, Lw.o_cat, Lw.o_sub, Lw.o_lt, Lw.o_le, Lw.o_gt, Lw.o_ge, Lw.o_eqi, Lw.o_eqs, Lw.o_nei, Lw.o_asB, Lw.beq_fb, Lw.beq_ob, List.getElem?_cons_zero, List.getElem?_cons_succ, List.set_cons_zero, List.set_cons_succ, List.replicate, List.cons_append, List.nil_append, reduceCtorEq, false_or, or_false, or_self, if_false, if_true, ite_true, ite_false, Nat.reduceAdd, Nat.reduceSub, Nat.reduceLeDiff, Nat.zero_add, Bool.and_true, Bool.true_and, Bool.not_true, Bool.not_false, decide_true, decide_false, $ts,*])
namespace Lw
open Mi PySem
def cell (ns : List Int) (k : Nat) : Int := (ns[k]?).getD 0
theorem cell_at (a : Ads) (ns : List Int) (k : Nat) : F__law_cell_at a [.scr ns, .int k] = .ok (.int (cell ns k)) := by
  by_cases h : (k : Int) < ns.length
  · have hk : k < ns.length := by lia
    have hx : L2.atI ns (k : Int) = some (ns[k]) := by
      unfold L2.atI L2.ixN
      rw [if_pos (by lia), if_pos h]
      exact List.getElem?_eq_getElem hk
    have hd : dIx (.scr ns) (.int k) = .ok (.int (cell ns k)) := by
      show (match L2.atI ns (k : Int) with | some v => Res.ok (D.int v) | none => .bad) = _
      rw [hx, cell, List.getElem?_eq_getElem hk]
      rfl
    simp_arith [F__law_cell_at, g__law_cell_at, o_lenS, h, hd]
  · have hc : cell ns k = 0 := by rw [cell, List.getElem?_eq_none (by lia)]; rfl
    simp_arith [F__law_cell_at, g__law_cell_at, o_lenS, h, hc]
end Lw
namespace Lw
open Mi PySem
theorem ix_ints {t : Tg} (xs : List Int) (i : Int) (h0 : 0 ≤ i) (h1 : i < xs.length) : dIx (.lst t (xs.map D.int)) (.int i) = .ok (.int (xs.getD i.toNat 0)) := by
  have hj : i.toNat < xs.length := by lia
  have e : L2.ixN (xs.map D.int).length i = some i.toNat := by
    unfold L2.ixN; rw [List.length_map, if_pos h0, if_pos h1]
  unfold dIx
  simp only [e]
  have g : (xs.map D.int)[i.toNat]? = some (.int (xs.getD i.toNat 0)) := by rw [List.getElem?_map, List.getD, List.getElem?_eq_getElem hj]; rfl
  cases t
  · show ofOpt ((xs.map D.int)[i.toNat]?.map D.asF) = _; rw [g]; rfl
  · show ofOpt ((xs.map D.int)[i.toNat]?) = _; rw [g]; rfl
  · show ofOpt ((xs.map D.int)[i.toNat]?.map D.rd) = _; rw [g]; rfl
def tbl : List Int := [48271, 69621, 16807, 39373, 30269, 40014, 40692, 50021, 61687, 71993, 83869, 95561, 30307]
def tb (k : Int) : Int := tbl.getD (k % 13).toNat 0
def mixV (c k many : Int) : Int := ((c % 2147483647 + 12345) * tb k * (2 * (k / 13) + 1) + 977 * k) % 1000000007 / 7 % many
theorem mix_ok (a : Ads) (c k many : Int) (k0 : 0 ≤ k) (k1 : k < 1000000) (hm : 0 < many) : F__law_mix a [.int c, .int k, .int many] = .ok (.int (mixV c k many)) := by
  have hi := ix_ints (t := .f) tbl (k % 13) (by lia) (by show k % 13 < 13; lia)
  have hi' : dIx (D.lst .f [D.int 48271, D.int 69621, D.int 16807, D.int 39373, D.int 30269, D.int 40014, D.int 40692, D.int 50021, D.int 61687, D.int 71993, D.int 83869, D.int 95561, D.int 30307]) (.int (k % 13)) = .ok (.int (tb k)) := hi
  have hz : (13 : Nat) ≤ sizeLine := by decide
  have b1 : tb k < 100000 := by
    have : ∀ j, tbl.getD j 0 < 100000 := by
      intro j
      simp only [tbl]
      match j with
      | 0 | 1 | 2 | 3 | 4 | 5 | 6 | 7 | 8 | 9 | 10 | 11 | 12 => decide
      | n + 13 => simp
    exact this _
  have b0 : -1 < tb k := by
    have : ∀ j, -1 < tbl.getD j 0 := by
      intro j
      simp only [tbl]
      match j with
      | 0 | 1 | 2 | 3 | 4 | 5 | 6 | 7 | 8 | 9 | 10 | 11 | 12 => decide
      | n + 13 => simp
    exact this _
  have hz : (13 : Nat) ≤ sizeLine := by decide
  simp_arith [F__law_mix, g__law_mix, hz, hi', o_mod c 2147483647 (by decide), o_mod k 13 (by decide), o_mul _ (tb k) (by lia), o_fdiv k 13 (by decide), o_mul' 2 _ (by decide), o_mul _ (2 * (k / 13) + 1) (by lia), o_mul' 977 _ (by decide), o_mod _ 1000000007 (by decide), o_fdiv _ 7 (by decide), o_mod _ many hm, mixV]
end Lw
namespace Lw
open Mi PySem
theorem callN_atom {n : Nat} {F : List D → Res D} {fa : FEnv → Res (List D)} {ρ : FEnv} {ds : List D} {d : D} (h : fa ρ = .ok ds) (hn : ds.length = n) (hF : F (D.fzs ds) = .ok d) (ha : d.atom = true) : fCallN n F fa ρ = .ok d := by
  unfold fCallN
  rw [h, bok, if_pos hn]
  unfold callF
  rw [hF]
  show (if _ then _ else _) = _
  rw [if_pos (.inr ha)]
theorem mixV_lt (c k many : Int) (h : 0 < many) : 0 ≤ mixV c k many ∧ mixV c k many < many := ⟨Int.emod_nonneg _ (by lia), Int.emod_lt_of_pos _ h⟩
def stepV (c k shut : Int) : Int := if mixV c k shut = 0 then 0 else if mixV c k shut = 1 then [1000, c % 1001].getD (mixV c (k + 500) 2).toNat 0 else 1 + mixV c (k + 900) 5
theorem stepV_in (c k shut : Int) (h : 0 < shut) : 0 ≤ stepV c k shut ∧ stepV c k shut ≤ 1000 := by
  unfold stepV
  split
  · lia
  · split
    · have h2 := mixV_lt c (k + 500) 2 (by decide)
      have : mixV c (k + 500) 2 = 0 ∨ mixV c (k + 500) 2 = 1 := by lia
      rcases this with e | e <;> rw [e] <;> simp <;> lia
    · have := mixV_lt c (k + 900) 5 (by decide)
      lia
theorem step_by (a : Ads) (c k shut : Int) (k0 : 0 ≤ k) (k1 : k < 900000) (hs : 0 < shut) : F__law_step_by a [.int c, .int k, .int shut] = .ok (.int (stepV c k shut)) := by
  have m1 : ∀ (e : Option D), fCallN 3 (F__law_mix a) (faCons (fVar 0) (faCons (fVar 1) (faCons (fVar 2) faNil))) [some (.int c), some (.int k), some (.int shut), e] = .ok (.int (mixV c k shut)) := fun e =>
    callN_atom (ds := [.int c, .int k, .int shut]) rfl rfl (by rw [fzs_cons, fzs_cons, fzs_cons, fzs_nil, fz_int, fz_int, fz_int]; exact mix_ok a c k shut k0 (by lia) hs) rfl
  have m2 : ∀ (e : Option D), fCallN 3 (F__law_mix a) (faCons (fVar 0) (faCons (f2 dCat (fVar 1) (fC (.int 500))) (faCons (fC (.int 2)) faNil))) [some (.int c), some (.int k), some (.int shut), e] = .ok (.int (mixV c (k + 500) 2)) := fun e =>
    callN_atom (ds := [.int c, .int (k + 500), .int 2]) rfl rfl (by rw [fzs_cons, fzs_cons, fzs_cons, fzs_nil, fz_int, fz_int, fz_int]; exact mix_ok a c (k + 500) 2 (by lia) (by lia) (by decide)) rfl
  have m3 : ∀ (e : Option D), fCallN 3 (F__law_mix a) (faCons (fVar 0) (faCons (f2 dCat (fVar 1) (fC (.int 900))) (faCons (fC (.int 5)) faNil))) [some (.int c), some (.int k), some (.int shut), e] = .ok (.int (mixV c (k + 900) 5)) := fun e =>
    callN_atom (ds := [.int c, .int (k + 900), .int 5]) rfl rfl (by rw [fzs_cons, fzs_cons, fzs_cons, fzs_nil, fz_int, fz_int, fz_int]; exact mix_ok a c (k + 900) 5 (by lia) (by lia) (by decide)) rfl
  have hz : (2 : Nat) ≤ sizeLine := by decide
  have h2 := mixV_lt c (k + 500) 2 (by decide)
  have hix : dIx (D.lst .o [D.int 1000, D.int (c % 1001)]) (.int (mixV c (k + 500) 2)) = .ok (.int ([1000, c % 1001].getD (mixV c (k + 500) 2).toNat 0)) := ix_ints (t := .o) [1000, c % 1001] _ h2.1 h2.2
  unfold stepV
  by_cases h0 : mixV c k shut = 0
  · simp_arith [F__law_step_by, g__law_step_by, m1, h0]
  · by_cases h1 : mixV c k shut = 1
    · simp_arith [F__law_step_by, g__law_step_by, m1, m2, h1, hz, hix, o_mod c 1001 (by decide), Int.reduceEq]
    · simp_arith [F__law_step_by, g__law_step_by, m1, m3, h0, h1]
end Lw
namespace Lw
open Mi PySem
theorem erase_map {α β : Type} (f : α → β) : ∀ (l : List α) (q : Nat), (l.map f).eraseIdx q = (l.eraseIdx q).map f
  | [], _ => rfl
  | _ :: _, 0 => rfl
  | x :: l, q + 1 => by simp [erase_map f l q]
theorem erase_perm {α : Type} : ∀ (l : List α) (q : Nat) (h : q < l.length), (l[q] :: l.eraseIdx q).Perm l
  | x :: l, 0, _ => .refl _
  | x :: l, q + 1, h => by
    have h' : q < l.length := by simpa using h
    exact (List.Perm.swap x _ _).trans (List.Perm.cons x (erase_perm l q h'))
def stR (c many rows : Int) (L Fd : List Int) (e : Option D) : FEnv := [some (.int c), some (.int many), some (.int rows), some (.lst .o (L.map D.int)), some (.lst .o (Fd.map D.int)), e]
abbrev fkR (a : Ads) : FEnv → Res D := fCallN 3 (F__law_mix a) (faCons (fVar 0) (faCons (f2 dMulI (fC (.int 7)) (fVar 5)) (faCons (fCB cLen (faCons (fVar 3) faNil)) faNil)))
theorem o_lenL0 (t : Tg) (xs : List D) : cLen [.lst t xs] = .ok (.int xs.length) := rfl
theorem pop_step (a : Ads) (c many rows : Int) (L Fd : List Int) (j : Nat) (hj : j < 1000) (hL : 0 < L.length) (hL8 : L.length < 1000) (hF : Fd.length < 1000) :
    ∃ q : Nat, ∃ hq : q < L.length, gAppPop 4 3 (fkR a) (stR c many rows L Fd (some (.int (0 + (j : Int))))) = .nx (stR c many rows (L.eraseIdx q) (Fd ++ [L[q]]) (some (.int (0 + (j : Int))))) := by
  have hm := mixV_lt c (7 * (0 + (j : Int))) L.length (by lia)
  have hz : Fd.length < sizeLine := Nat.lt_trans hF (by decide)
  refine ⟨(mixV c (7 * (0 + (j : Int))) L.length).toNat, by lia, ?_⟩
  have hk : fkR a (stR c many rows L Fd (some (.int (0 + (j : Int))))) = .ok (.int (mixV c (7 * (0 + (j : Int))) L.length)) := by
    refine callN_atom (ds := [.int c, .int (7 * (0 + (j : Int))), .int L.length]) ?_ rfl ?_ rfl
    · simp_arith [stR, o_lenL0, List.length_map, o_mul' 7 _ (by decide)]
    · rw [fzs_cons, fzs_cons, fzs_cons, fzs_nil, fz_int, fz_int, fz_int]
      exact mix_ok a c _ _ (by lia) (by lia) (by lia)
  have hs : seqIndex? (mixV c (7 * (0 + (j : Int))) L.length) (L.map D.int).length = some (mixV c (7 * (0 + (j : Int))) L.length).toNat := by
    refine (L2.ixN_seq ?_).1
    unfold L2.ixN
    rw [List.length_map, if_pos hm.1, if_pos hm.2]
  have hg : (L.map D.int)[(mixV c (7 * (0 + (j : Int))) L.length).toNat]? = some (.int (L[(mixV c (7 * (0 + (j : Int))) L.length).toNat]'(by lia))) := by
    rw [List.getElem?_map, List.getElem?_eq_getElem (by lia)]; rfl
  have e4 : (stR c many rows L Fd (some (.int (0 + (j : Int)))))[4]? = some (some (.lst .o (Fd.map D.int))) := rfl
  have e3 : (stR c many rows L Fd (some (.int (0 + (j : Int)))))[3]? = some (some (.lst .o (L.map D.int))) := rfl
  unfold gAppPop
  simp only [e4, e3, hk, aok, hs, hg]
  rw [if_neg (by rw [tag_int, List.length_map]; simp only [reduceCtorEq, false_or]; lia)]
  rw [erase_map]
  simp [stR]
theorem for_cons {gt : D → FEnv → Res FEnv} {gb : FEnv → FOut} {x : D} {xs : List D} {ρ ρ1 ρ2 : FEnv} {o : FOut} (h1 : gt x ρ = .ok ρ1) (h2 : gb ρ1 = .nx ρ2) (h3 : forF gt gb xs ρ2 = o) : forF gt gb (x :: xs) ρ = o := by
  show (match gt x ρ with
    | .ok ρ1 => match gb ρ1 with
      | .nx ρ2 => forF gt gb xs ρ2
      | .ct ρ2 => forF gt gb xs ρ2
      | .bk ρ2 => .nx ρ2
      | r => r
    | _ => .bad) = o
  rw [h1]; simp only [h2, h3]
theorem rows_loop (a : Ads) (c many rows : Int) : ∀ (m i : Nat) (L Fd : List Int) (e : Option D), m ≤ L.length → L.length < 1000 → i + m < 1000 → Fd.length + m < 1000 →
    ∃ L' Fd' e', forF (tgName 5) (gAppPop 4 3 (fkR a)) ((List.range' i m).map fun (j : Nat) => D.int (0 + (j : Int))) (stR c many rows L Fd e) = .nx (stR c many rows L' Fd' e') ∧ (L' ++ Fd').Perm (L ++ Fd) ∧ Fd'.length = Fd.length + m
  | 0, i, L, Fd, e, _, _, _, _ => ⟨L, Fd, e, rfl, .refl _, rfl⟩
  | m + 1, i, L, Fd, e, h1, h2, h3, h4 => by
    obtain ⟨q, hq, hs⟩ := pop_step a c many rows L Fd i (by lia) (by lia) h2 (by lia)
    have hl : (L.eraseIdx q).length = L.length - 1 := List.length_eraseIdx_of_lt hq
    obtain ⟨L', Fd', e', k1, k2, k3⟩ := rows_loop a c many rows m (i + 1) (L.eraseIdx q) (Fd ++ [L[q]]) (some (.int (0 + (i : Int)))) (by lia) (by lia) (by lia) (by simp; lia)
    refine ⟨L', Fd', e', ?_, k2.trans ?_, by rw [k3]; simp; lia⟩
    · rw [List.range'_succ, List.map_cons]
      exact for_cons rfl hs k1
    · have p : (L[q] :: L.eraseIdx q).Perm L := erase_perm L q hq
      refine List.Perm.trans ?_ (List.Perm.append_right Fd p)
      rw [← List.append_assoc, List.cons_append]
      exact List.perm_append_singleton _ _
structure Rising (rows : Int) (many : Nat) (L : List Int) : Prop where
  len : L.length = many
  asc : L.Pairwise (· < ·)
  inn : ∀ x ∈ L, 0 ≤ x ∧ x < rows
theorem fiR1_ok {fa : FEnv → Res (List D)} {ρ : FEnv} {n : Nat} (h : fa ρ = .ok [.int (n : Int)]) (hn : n < 1000) : fiR1 fa ρ = .ok (rints 0 n) := by
  have h1 : -(2 ^ 62) ≤ (n : Int) := by lia
  have h2 : (n : Int) < 2 ^ 62 := by lia
  unfold fiR1
  rw [h, bok]
  show (if (decide (-(2 ^ 62) ≤ (n : Int)) && decide ((n : Int) < 2 ^ 62)) = true then Res.ok (rints 0 (n : Int).toNat) else .bad) = _
  rw [if_pos (by rw [Bool.and_eq_true, decide_eq_true_eq, decide_eq_true_eq]; exact ⟨h1, h2⟩), Int.toNat_natCast]
theorem listR1_ok {fa : FEnv → Res (List D)} {ρ : FEnv} {n : Nat} (h : fa ρ = .ok [.int (n : Int)]) (hn : n < 1000) : fListR1 fa ρ = .ok (.lst .o (rints 0 n)) := by
  have hl : (rints 0 n).length ≤ 1000000 := by
    have : (rints 0 n).length = n := by simp [rints]
    lia
  unfold fListR1
  rw [fiR1_ok h hn, bok, if_pos hl]
theorem fzs_ints : ∀ L : List Int, D.fzs (L.map D.int) = L.map D.int
  | [] => fzs_nil
  | x :: L => by rw [List.map_cons, fzs_cons, fz_int, fzs_ints L]
theorem sorted_ok (t : Tg) (L : List Int) (hi : D.its (.lst t (L.map D.int)) = some (L.map D.int)) (h : L.length < 64) : cSortedI [.lst t (L.map D.int)] = .ok (.lst .o ((isort L).map D.int)) := by
  unfold cSortedI
  simp only [hi, intsOf_map]
  rw [if_pos ⟨rfl, h⟩]
theorem rints_map (n : Nat) : rints 0 n = ((List.range n).map fun (i : Nat) => (0 + (i : Int))).map D.int := by simp [rints]
theorem its_b (L : List Int) : D.its (.lst .b (L.map D.int)) = some (L.map D.int) := by
  show (if ((L.map D.int).all fun x => x.tag == Tg.f) = true then some (L.map D.int) else none) = _
  refine if_pos ?_
  rw [List.all_eq_true]
  intro x hx
  obtain ⟨i, _, rfl⟩ := List.mem_map.mp hx
  rfl
theorem body_rt {N : Nat} {g : FEnv → FOut} {ds : List D} {d : D} (h : g (ds.map some ++ List.replicate (N - ds.length) none) = .rt d) : bodyF N g ds = .ok d := by unfold bodyF; rw [h]
def rho0 (c : Int) (many rows : Nat) : FEnv := [some (.int c), some (.int many), some (.int rows), none, none, none]
def rho1 (c : Int) (many rows : Nat) : FEnv := [some (.int c), some (.int many), some (.int rows), some (.lst .o (rints 0 rows)), none, none]
abbrev L0 (rows : Nat) : List Int := (List.range rows).map fun (i : Nat) => (0 + (i : Int))
theorem rr1 (c : Int) (many rows : Nat) (hr : rows < 1000) : gSet 3 (fListR1 (faCons (fVar 2) faNil)) (rho0 c many rows) = .nx (rho1 c many rows) := by
  have fl : fListR1 (faCons (fVar 2) faNil) (rho0 c many rows) = .ok (.lst .o (rints 0 rows)) := listR1_ok (by simp_arith [rho0]) hr
  unfold gSet
  rw [fl, aok, tag_lst, if_neg (by simp [rho0])]
  simp only [rho0, rho1, List.set_cons_zero, List.set_cons_succ]
theorem rr2 (c : Int) (many rows : Nat) : gSet 4 (fLst faNil) (rho1 c many rows) = .nx (stR c many rows (L0 rows) [] none) := by
  have hz : (0 : Nat) ≤ sizeLine := Nat.zero_le _
  simp_arith [stR, rho1, rints_map, hz]
theorem rr3 (a : Ads) (c : Int) (many rows : Nat) (hm : many < 1000) {r : FEnv} (k1 : forF (tgName 5) (gAppPop 4 3 (fkR a)) (rints 0 many) (stR c many rows (L0 rows) [] none) = .nx r) :
    gFor (fiR1 (faCons (fVar 1) faNil)) (tgName 5) (gAppPop 4 3 (fkR a)) (stR c many rows (L0 rows) [] none) = .nx r := by
  have ff : fiR1 (faCons (fVar 1) faNil) (stR c many rows (L0 rows) [] none) = .ok (rints 0 many) := fiR1_ok (by simp_arith [stR]) hm
  unfold gFor
  rw [ff, aok]
  exact k1
theorem rr4 (c many rows : Int) (L' Fd : List Int) (e' : Option D) (hF : Fd.length < 64) : gRet (fCB cSortedI (faCons (fVar 4) faNil)) (stR c many rows L' Fd e') = .rt (.lst .o ((isort Fd).map D.int)) := by
  have fs : fCB cSortedI (faCons (fVar 4) faNil) (stR c many rows L' Fd e') = .ok (.lst .o ((isort Fd).map D.int)) := by
    simp_arith [stR]
    exact sorted_ok .b Fd (its_b Fd) hF
  unfold gRet
  rw [fs, aok, tag_lst, if_neg (by simp)]
theorem seq_nx {g1 g2 : FEnv → FOut} {r r' : FEnv} (h : g1 r = .nx r') : gSeq g1 g2 r = g2 r' := by unfold gSeq; rw [h]
theorem rr5 (a : Ads) (c : Int) (many rows : Nat) (hm : many < 1000) (hr : rows < 1000) {L' Fd : List Int} {e' : Option D}
    (k1 : forF (tgName 5) (gAppPop 4 3 (fkR a)) (rints 0 many) (stR c many rows (L0 rows) [] none) = .nx (stR c many rows L' Fd e')) (hF : Fd.length < 64) : g__law_rows_by a (rho0 c many rows) = .rt (.lst .o ((isort Fd).map D.int)) := by
  unfold g__law_rows_by
  rw [seq_nx (rr1 c many rows hr), seq_nx (rr2 c many rows), seq_nx (rr3 a c many rows hm k1)]
  exact rr4 c many rows L' Fd e' hF
theorem rows_run (a : Ads) (c : Int) (many rows : Nat) (hm : many < 1000) (hr : rows < 1000) {L' Fd : List Int} {e' : Option D}
    (k1 : forF (tgName 5) (gAppPop 4 3 (fkR a)) (rints 0 many) (stR c many rows (L0 rows) [] none) = .nx (stR c many rows L' Fd e')) (hF : Fd.length < 64) :
    F__law_rows_by a [.int c, .int many, .int rows] = .ok (.lst .o ((isort Fd).map D.int)) := by
  have gg := rr5 a c many rows hm hr k1 hF
  exact body_rt gg
theorem rows_by (a : Ads) (c : Int) (many rows : Nat) (h1 : many ≤ rows) (h2 : rows ≤ 8) : ∃ L, F__law_rows_by a [.int c, .int many, .int rows] = .ok (.lst .o (L.map D.int)) ∧ Rising rows many L := by
  obtain ⟨L', Fd, e', k1, k2, k3⟩ := rows_loop a c many rows many 0 ((List.range rows).map fun (i : Nat) => (0 + (i : Int))) [] none (by simp; lia) (by simp; lia) (by lia) (by simp; lia)
  have hr : rints 0 many = (List.range' 0 many).map fun (j : Nat) => D.int (0 + (j : Int)) := by rw [rints, List.range_eq_range']
  rw [← hr] at k1
  have kl : Fd.length = many := by rw [k3]; simp
  have nd : (L' ++ Fd).Nodup := by
    refine (k2.nodup_iff).mpr ?_
    rw [List.append_nil]
    exact List.Pairwise.map _ (fun a b h z => h (by lia)) (List.nodup_range (n := rows))
  have inn : ∀ x ∈ Fd, 0 ≤ x ∧ x < rows := fun x hx => by
    have := k2.subset (List.mem_append_right L' hx)
    simp at this
    obtain ⟨i, hi, rfl⟩ := this
    lia
  refine ⟨isort Fd, rows_run a c many rows (by lia) (by lia) k1 (by lia), by rw [(isort_perm Fd).length_eq, kl], ?_, fun x hx => inn x ((isort_perm Fd).subset hx)⟩
  have h1 := isort_sorted Fd
  have h2 : (isort Fd).Nodup := ((isort_perm Fd).nodup_iff).mpr (List.nodup_append.mp nd).2.1
  exact (List.pairwise_and_iff.mpr ⟨h1, h2⟩).imp fun ⟨x, y⟩ => by lia
end Lw
namespace Lw
open Mi PySem
def onI (f : Int → D) : D → D := fun d => match d with | .int x => f x | d => d
theorem onI_int (f : Int → D) (x : Int) : onI f (.int x) = f x := rfl
theorem compF_map {rest : FEnv} {fe : FEnv → Res D} {h : D → D} : ∀ (items : List D) (e : Option D) (acc : List D), (∀ x ∈ items, fe (some x :: rest) = .ok (h x) ∧ (h x).tag ≠ .b) → acc.length + items.length ≤ 1000 →
    compF (tgName 0) ftTrue fe items (e :: rest) acc = .ok (acc ++ items.map h)
  | [], _, acc, _, _ => by rw [List.map_nil, List.append_nil]; rfl
  | x :: xs, e, acc, hh, hl => by
    have hz : ¬ sizeLine ≤ acc.length := by
      have : (1000 : Nat) < sizeLine := by decide
      simp at hl; lia
    obtain ⟨h1, h2⟩ := hh x List.mem_cons_self
    unfold compF
    have ht : tgName 0 x (e :: rest) = .ok (some x :: rest) := by
      unfold tgName
      rw [if_neg (by simp)]
      rfl
    rw [ht, bok]
    show (ftTrue (some x :: rest) >>= _) = _
    rw [show ftTrue (some x :: rest) = .ok true from rfl, bok, if_pos rfl, h1, bok, if_neg (fun z => z.elim h2 hz)]
    rw [compF_map xs (some x) (acc ++ [h x]) (fun y hy => hh y (List.mem_cons_of_mem _ hy)) (by simp at hl ⊢; lia)]
    simp
theorem comp1 {cap : List Nat} {fi : FEnv → Res (List D)} {fe : FEnv → Res D} {ρ : FEnv} {items : List D} (h : D → D) (hi : fi ρ = .ok items) (hh : ∀ x ∈ items, fe (some x :: cap.map (capOf ρ)) = .ok (h x) ∧ (h x).tag ≠ .b) (hl : items.length ≤ 1000) :
    fCompX 1 cap fi (tgName 0) ftTrue fe ρ = .ok (.lst .o (items.map h)) := by
  unfold fCompX
  rw [hi, bok]
  have := compF_map (rest := cap.map (capOf ρ)) (fe := fe) (h := h) items none [] hh (by simpa using hl)
  show (match compF (tgName 0) ftTrue fe items (none :: cap.map (capOf ρ)) [] with
    | .ok ds => Res.ok (D.lst .o ds)
    | _ => .bad) = _
  rw [this]
  rfl
theorem callQ_atom {n : Nat} {F : List D → Res D} {fa : FEnv → Res (List D)} {ρ : FEnv} {ds : List D} {d : D} (h : fa ρ = .ok ds) (hn : ds.length = n) (hF : F (D.fzs ds) = .ok d) (ha : d.atom = true) : fCallQ n F fa ρ = .ok d := by
  unfold fCallQ
  rw [h, bok, if_pos hn]
  have : callF F ds = .ok d := by
    unfold callF
    rw [hF]
    show (if _ then _ else _) = _
    rw [if_pos (.inr ha)]
  rw [this]
theorem mem_rints {n : Nat} {x : D} (h : x ∈ rints 0 n) : ∃ i : Nat, i < n ∧ x = .int i := by
  unfold rints at h
  obtain ⟨i, hi, rfl⟩ := List.mem_map.mp h
  exact ⟨i, List.mem_range.mp hi, by simp⟩
def gridD (t : Tg) (g : List (List Int)) : List D := g.map fun r => D.lst t (r.map D.int)
end Lw
namespace Lw
open Mi PySem
def gridR (c shut : Int) (cols rows : Nat) : List (List Int) := (List.range rows).map fun (y : Nat) => (List.range cols).map fun (x : Nat) => stepV c (10 * (y : Int) + (x : Int)) shut
def gridU (c shut : Int) (cols rows : Nat) : List (List Int) := (List.range rows).map fun (y : Nat) => (List.range cols).map fun (x : Nat) => stepV c (200 + 10 * (y : Int) + (x : Int)) shut
abbrev feR (a : Ads) : FEnv → Res D := fCompX 1 [0, 1, 3] (fiR1 (faCons (f2 dSub (fVar 2) (fC (.int 1))) faNil)) (tgName 0) ftTrue (fCallQ 3 (F__law_step_by a) (faCons (fVar 3) (faCons (f2 dCat (f2 dMulI (fC (.int 10)) (fVar 1)) (fVar 0)) (faCons (fVar 2) faNil))))
theorem row_right (a : Ads) (c shut : Int) (cols y : Nat) (hs : 0 < shut) (hc : cols < 100) (hy : y < 100) :
    feR a [some (.int y), some (.int shut), some (.int ((cols : Int) + 1)), some (.int c)] = .ok (.lst .o ((rints 0 cols).map (onI fun (x : Int) => D.int (stepV c (10 * (y : Int) + x) shut)))) := by
  refine comp1 (items := rints 0 cols) _ (fiR1_ok ?_ (by lia)) (fun d hd => ?_) (by simp [rints]; lia)
  · simp_arith []
    congr 3
    lia
  · obtain ⟨x, hx, rfl⟩ := mem_rints hd
    refine ⟨?_, ntb rfl⟩
    refine callQ_atom (ds := [.int c, .int (10 * (y : Int) + (x : Int)), .int shut]) ?_ rfl ?_ rfl
    · simp_arith [capOf, o_mul' 10 _ (by decide)]
    · rw [fzs_cons, fzs_cons, fzs_cons, fzs_nil, fz_int, fz_int, fz_int]
      exact step_by a c _ shut (by lia) (by lia) hs
theorem row_map (cols : Nat) (f : Int → Int) : ((rints 0 cols).map (onI fun (x : Int) => D.int (f x))) = ((List.range cols).map fun (x : Nat) => f (x : Int)).map D.int := by
  unfold rints
  rw [List.map_map, List.map_map]
  refine List.map_congr_left fun x _ => ?_
  simp only [Function.comp_apply, onI_int, Int.zero_add]
theorem grid_right (a : Ads) (c shut : Int) (cols rows : Nat) (hs : 0 < shut) (hc : cols < 100) (hr : rows < 100) {ρ : FEnv} (h3 : ρ[3]? = some (some (.int shut))) (h4 : ρ[4]? = some (some (.int ((cols : Int) + 1)))) (h5 : ρ[5]? = some (some (.int rows))) (h6 : ρ[6]? = some (some (.int c))) :
    fCompX 1 [3, 4, 6] (fiR1 (faCons (fVar 5) faNil)) (tgName 0) ftTrue (feR a) ρ = .ok (.lst .o (gridD .o (gridR c shut cols rows))) := by
  have e := comp1 (cap := [3, 4, 6]) (fi := fiR1 (faCons (fVar 5) faNil)) (fe := feR a) (ρ := ρ) (items := rints 0 rows) ((onI fun (y : Int) => D.lst .o (((List.range cols).map fun (x : Nat) => stepV c (10 * y + (x : Int)) shut).map D.int)))
    (fiR1_ok (by unfold faCons faNil; rw [fVar_at 5 ρ _ h5]; simp_arith []) (by lia)) (fun d hd => ?_) (by simp [rints]; lia)
  · rw [e]
    congr 2
    unfold rints gridD gridR
    rw [List.map_map, List.map_map]
    refine List.map_congr_left fun y _ => ?_
    simp only [Function.comp_apply, onI_int, Int.zero_add]
  · obtain ⟨y, hy, rfl⟩ := mem_rints hd
    refine ⟨?_, ntb rfl⟩
    have hcap : [3, 4, 6].map (capOf ρ) = [some (.int shut), some (.int ((cols : Int) + 1)), some (.int c)] := by
      simp only [List.map_cons, List.map_nil, capOf, h3, h4, h6, tag_int, if_true]
    rw [hcap, row_right a c shut cols y hs hc (by lia), row_map cols fun x => stepV c (10 * (y : Int) + x) shut, onI_int]
end Lw
namespace Lw
open Mi PySem
abbrev feU (a : Ads) : FEnv → Res D := fCompX 1 [0, 1, 3] (fiR1 (faCons (fVar 2) faNil)) (tgName 0) ftTrue (fCallQ 3 (F__law_step_by a) (faCons (fVar 3) (faCons (f2 dCat (f2 dCat (fC (.int 200)) (f2 dMulI (fC (.int 10)) (fVar 1))) (fVar 0)) (faCons (fVar 2) faNil))))
theorem row_up (a : Ads) (c shut : Int) (cols y : Nat) (hs : 0 < shut) (hc : cols < 100) (hy : y < 100) :
    feU a [some (.int y), some (.int shut), some (.int (cols : Int)), some (.int c)] = .ok (.lst .o ((rints 0 cols).map (onI fun (x : Int) => D.int (stepV c (200 + 10 * (y : Int) + x) shut)))) := by
  refine comp1 (items := rints 0 cols) _ (fiR1_ok ?_ (by lia)) (fun d hd => ?_) (by simp [rints]; lia)
  · simp_arith []
  · obtain ⟨x, hx, rfl⟩ := mem_rints hd
    refine ⟨?_, ntb rfl⟩
    refine callQ_atom (ds := [.int c, .int (200 + 10 * (y : Int) + (x : Int)), .int shut]) ?_ rfl ?_ rfl
    · simp_arith [capOf, o_mul' 10 _ (by decide)]
    · rw [fzs_cons, fzs_cons, fzs_cons, fzs_nil, fz_int, fz_int, fz_int]
      exact step_by a c _ shut (by lia) (by lia) hs
theorem grid_up (a : Ads) (c shut : Int) (cols rows : Nat) (hs : 0 < shut) (hc : cols < 100) (hr : rows < 100) {ρ : FEnv} (h3 : ρ[3]? = some (some (.int shut))) (h4 : ρ[4]? = some (some (.int (cols : Int)))) (h5 : ρ[5]? = some (some (.int ((rows : Int) + 1)))) (h6 : ρ[6]? = some (some (.int c))) :
    fCompX 1 [3, 4, 6] (fiR1 (faCons (f2 dSub (fVar 5) (fC (.int 1))) faNil)) (tgName 0) ftTrue (feU a) ρ = .ok (.lst .o (gridD .o (gridU c shut cols rows))) := by
  have e := comp1 (cap := [3, 4, 6]) (fi := fiR1 (faCons (f2 dSub (fVar 5) (fC (.int 1))) faNil)) (fe := feU a) (ρ := ρ) (items := rints 0 rows) ((onI fun (y : Int) => D.lst .o (((List.range cols).map fun (x : Nat) => stepV c (200 + 10 * y + (x : Int)) shut).map D.int)))
    (fiR1_ok (by
      unfold faCons faNil f2 fC
      rw [fVar_at 5 ρ _ h5]
      simp_arith []
      congr 3
      lia) (by lia)) (fun d hd => ?_) (by simp [rints]; lia)
  · rw [e]
    congr 2
    unfold rints gridD gridU
    rw [List.map_map, List.map_map]
    refine List.map_congr_left fun y _ => ?_
    simp only [Function.comp_apply, onI_int, Int.zero_add]
  · obtain ⟨y, hy, rfl⟩ := mem_rints hd
    refine ⟨?_, ntb rfl⟩
    have hcap : [3, 4, 6].map (capOf ρ) = [some (.int shut), some (.int (cols : Int)), some (.int c)] := by
      simp only [List.map_cons, List.map_nil, capOf, h3, h4, h6, tag_int, if_true]
    rw [hcap, row_up a c shut cols y hs hc (by lia)]
    exact congrArg (fun l => Res.ok (D.lst Tg.o l)) (row_map cols fun x => stepV c (200 + 10 * (y : Int) + x) shut)
theorem fzs_grid (t : Tg) : ∀ g : List (List Int), D.fzs (gridD t g) = gridD .f g
  | [] => fzs_nil
  | r :: g => by
    show D.fzs (D.lst t (r.map D.int) :: gridD t g) = _
    rw [fzs_cons, fz_lst, fzs_ints, fzs_grid t g]
    rfl
structure Parts where
  cols : Nat
  rows : Nat
  right : List (List Int)
  up : List (List Int)
  starts : List Int
  ends : List Int
def Parts.d (p : Parts) : D := .tup [.lst .f (gridD .f p.right), .lst .f (gridD .f p.up), .lst .f (p.starts.map D.int), .lst .f (p.ends.map D.int)]
structure Good (most walkers : Nat) (p : Parts) : Prop where
  c1 : 1 ≤ p.cols ∧ p.cols ≤ most
  r1 : 1 ≤ p.rows ∧ p.rows ≤ most
  rl : p.right.length = p.rows
  rr : ∀ r ∈ p.right, r.length + 1 = p.cols ∧ ∀ v ∈ r, 0 ≤ v ∧ v ≤ 1000
  ul : p.up.length + 1 = p.rows
  ur : ∀ r ∈ p.up, r.length = p.cols ∧ ∀ v ∈ r, 0 ≤ v ∧ v ≤ 1000
  many : ∃ m, 1 ≤ m ∧ m ≤ walkers ∧ Rising p.rows m p.starts ∧ Rising p.rows m p.ends
theorem gridR_ok (c shut : Int) (cols rows : Nat) (hs : 0 < shut) : (gridR c shut cols rows).length = rows ∧ ∀ r ∈ gridR c shut cols rows, r.length = cols ∧ ∀ v ∈ r, 0 ≤ v ∧ v ≤ 1000 := by
  refine ⟨by simp [gridR], fun r hr => ?_⟩
  obtain ⟨y, _, rfl⟩ := List.mem_map.mp hr
  refine ⟨by simp, fun v hv => ?_⟩
  obtain ⟨x, _, rfl⟩ := List.mem_map.mp hv
  exact stepV_in _ _ _ hs
theorem gridU_ok (c shut : Int) (cols rows : Nat) (hs : 0 < shut) : (gridU c shut cols rows).length = rows ∧ ∀ r ∈ gridU c shut cols rows, r.length = cols ∧ ∀ v ∈ r, 0 ≤ v ∧ v ≤ 1000 := by
  refine ⟨by simp [gridU], fun r hr => ?_⟩
  obtain ⟨y, _, rfl⟩ := List.mem_map.mp hr
  refine ⟨by simp, fun v hv => ?_⟩
  obtain ⟨x, _, rfl⟩ := List.mem_map.mp hv
  exact stepV_in _ _ _ hs
end Lw
namespace Lw
open Mi PySem
theorem fz_scr (ns : List Int) : (D.scr ns).fz = .scr ns := rfl
theorem set_ok {i : Nat} {f : FEnv → Res D} {ρ : FEnv} {d : D} (h : f ρ = .ok d) (hb : d.tag ≠ .b) (hi : i < ρ.length) : gSet i f ρ = .nx (ρ.set i (some d)) := by
  unfold gSet
  rw [h, aok, if_neg (fun z => z.elim hb (by lia))]
theorem fz_ok {f : FEnv → Res D} {ρ : FEnv} {d : D} (h : f ρ = .ok d) (hb : d.tag ≠ .b) : fFz f ρ = .ok d.fz := by
  unfold fFz
  rw [h, bok, if_neg hb]
theorem setz {i : Nat} {f : FEnv → Res D} {ρ : FEnv} {d : D} (h : f ρ = .ok d) (hb : d.tag ≠ .b) (hi : i < ρ.length) : gSet i (fFz f) ρ = .nx (ρ.set i (some d.fz)) := set_ok (fz_ok h hb) (by rw [d.fz_tag]; decide) hi
theorem facons {f : FEnv → Res D} {g : FEnv → Res (List D)} {ρ : FEnv} {d : D} {ds : List D} (h1 : f ρ = .ok d) (h2 : g ρ = .ok ds) : faCons f g ρ = .ok (d :: ds) := by unfold faCons; rw [h1, bok, h2, bok]
theorem f2of {g : D → D → Res D} {f1 f2' : FEnv → Res D} {ρ : FEnv} {x y : D} (h1 : f1 ρ = .ok x) (h2 : f2' ρ = .ok y) : f2 g f1 f2' ρ = g x y := by unfold f2; rw [h1, bok, h2, bok]
theorem callN_ok {n : Nat} {F : List D → Res D} {fa : FEnv → Res (List D)} {ρ : FEnv} {ds : List D} {d : D} (h : fa ρ = .ok ds) (hn : ds.length = n) (hF : F (D.fzs ds) = .ok d) (hb : nb ds = true) (ht : d.tag ≠ .b) : fCallN n F fa ρ = .ok d := by
  unfold fCallN
  rw [h, bok, if_pos hn]
  unfold callF
  rw [hF]
  show (if _ then _ else _) = _
  rw [if_pos (.inl ⟨hb, ht⟩)]
theorem cell_call (a : Ads) (ns : List Int) (k : Nat) {ρ : FEnv} (h : ρ[0]? = some (some (.scr ns))) : fCallN 2 (F__law_cell_at a) (faCons (fVar 0) (faCons (fC (.int (k : Int))) faNil)) ρ = .ok (.int (cell ns k)) := by
  refine callN_atom (ds := [.scr ns, .int k]) ?_ rfl ?_ rfl
  · unfold faCons faNil fC
    rw [fVar_at 0 ρ _ h]
    rfl
  · rw [fzs_cons, fzs_cons, fzs_nil, fz_scr, fz_int]
    exact cell_at a ns k
theorem mod_cell (a : Ads) (ns : List Int) (k : Nat) {ρ : FEnv} (j : Nat) (m : Int) (h : ρ[0]? = some (some (.scr ns))) (hj : ρ[j]? = some (some (.int m))) (hm : 0 < m) :
    f2 dCat (fC (.int 1)) (f2 dMod (fCallN 2 (F__law_cell_at a) (faCons (fVar 0) (faCons (fC (.int (k : Int))) faNil))) (fVar j)) ρ = .ok (.int (1 + cell ns k % m)) := by
  rw [f2of (x := .int 1) rfl ((f2of (cell_call a ns k h) (fVar_at j ρ _ hj)).trans (o_mod _ _ hm)), o_cat]
theorem rows_call (a : Ads) (ns : List Int) (k : Nat) (many rows : Nat) {ρ : FEnv} (h : ρ[0]? = some (some (.scr ns))) (h9 : ρ[9]? = some (some (.int many))) (h5 : ρ[5]? = some (some (.int rows))) (h1 : many ≤ rows) (h2 : rows ≤ 8) :
    ∃ L, fCallN 3 (F__law_rows_by a) (faCons (fCallN 2 (F__law_cell_at a) (faCons (fVar 0) (faCons (fC (.int (k : Int))) faNil))) (faCons (fVar 9) (faCons (fVar 5) faNil))) ρ = .ok (.lst .o (L.map D.int)) ∧ Rising rows many L := by
  obtain ⟨L, e, r⟩ := rows_by a (cell ns k) many rows h1 h2
  refine ⟨L, ?_, r⟩
  refine callN_ok (ds := [.int (cell ns k), .int many, .int rows]) (facons (cell_call a ns k h) (facons (fVar_at 9 ρ _ h9) (facons (fVar_at 5 ρ _ h5) rfl))) rfl ?_ rfl (ntb rfl)
  rw [fzs_cons, fzs_cons, fzs_cons, fzs_nil, fz_int, fz_int, fz_int, e]
end Lw
namespace Lw
open Mi PySem
theorem rising_range (rows many : Nat) (h : many ≤ rows) : Rising rows many ((List.range many).map fun (i : Nat) => (0 + (i : Int))) := by
  refine ⟨by simp, List.Pairwise.map _ (fun a b h => by lia) (List.pairwise_lt_range (n := many)), fun x hx => ?_⟩
  obtain ⟨i, hi, rfl⟩ := List.mem_map.mp hx
  have := List.mem_range.mp hi
  lia
theorem rising_top (rows many : Nat) (h : many ≤ rows) : Rising rows many ((List.range many).map fun (i : Nat) => ((rows : Int) - many + (i : Int))) := by
  refine ⟨by simp, List.Pairwise.map _ (fun a b h => by lia) (List.pairwise_lt_range (n := many)), fun x hx => ?_⟩
  obtain ⟨i, hi, rfl⟩ := List.mem_map.mp hx
  have := List.mem_range.mp hi
  lia
def E0 (ns : List Int) (most walkers : Nat) (shut : Int) (v4 v5 v6 v7 v8 v9 : Option D) : FEnv := [some (.scr ns), some (.int most), some (.int walkers), some (.int shut), v4, v5, v6, v7, v8, v9, none, none]
def E1 (ns : List Int) (most walkers : Nat) (shut : Int) (C R : Nat) (c : Int) (r u : D) (M : Nat) (st en : Option D) : FEnv :=
  [some (.scr ns), some (.int most), some (.int walkers), some (.int shut), some (.int ((C : Int) + 1)), some (.int ((R + 1 : Nat) : Int)), some (.int c), some r, some u, some (.int M), st, en]
theorem parts_by (a : Ads) (ns : List Int) (most walkers : Nat) (shut : Int) (hm : 1 ≤ most) (hm8 : most ≤ 8) (hw : 1 ≤ walkers) (hs : 0 < shut) : ∃ p : Parts, Good most walkers p ∧ ∃ d, F__law_parts_by a [.scr ns, .int most, .int walkers, .int shut] = .ok d ∧ d = p.d := by
  obtain ⟨C, hC, hC2⟩ : ∃ C : Nat, 1 + cell ns 0 % (most : Int) = (C : Int) + 1 ∧ C < most := ⟨(cell ns 0 % (most : Int)).toNat, by have := Int.emod_nonneg (cell ns 0) (b := (most : Int)) (by lia); lia, by have := Int.emod_lt_of_pos (cell ns 0) (b := (most : Int)) (by lia); have := Int.emod_nonneg (cell ns 0) (b := (most : Int)) (by lia); lia⟩
  obtain ⟨R, hR, hR2⟩ : ∃ R : Nat, 1 + cell ns 1 % (most : Int) = (R : Int) + 1 ∧ R < most := ⟨(cell ns 1 % (most : Int)).toNat, by have := Int.emod_nonneg (cell ns 1) (b := (most : Int)) (by lia); lia, by have := Int.emod_lt_of_pos (cell ns 1) (b := (most : Int)) (by lia); have := Int.emod_nonneg (cell ns 1) (b := (most : Int)) (by lia); lia⟩
  have hmn : 0 < (if ((R : Int) + 1) < (walkers : Int) then ((R : Int) + 1) else (walkers : Int)) := by split <;> lia
  obtain ⟨M, hM, hM2, hM3⟩ : ∃ M : Nat, 1 + cell ns 4 % (if ((R : Int) + 1) < (walkers : Int) then ((R : Int) + 1) else (walkers : Int)) = (M : Int) ∧ 1 ≤ M ∧ M ≤ R + 1 ∧ M ≤ walkers := by
    have h1 := Int.emod_nonneg (cell ns 4) (b := (if ((R : Int) + 1) < (walkers : Int) then ((R : Int) + 1) else (walkers : Int))) (by lia)
    have h2 := Int.emod_lt_of_pos (cell ns 4) hmn
    refine ⟨(1 + cell ns 4 % (if ((R : Int) + 1) < (walkers : Int) then ((R : Int) + 1) else (walkers : Int))).toNat, by lia, by lia, ?_, ?_⟩ <;> split at h2 <;> split <;> lia
  obtain ⟨L1, s1, r1⟩ := rows_call a ns 5 M (R + 1) (ρ := E1 ns most walkers shut C R (cell ns 3) (.lst .f (gridD .f (gridR (cell ns 2) shut C (R + 1)))) (.lst .f (gridD .f (gridU (cell ns 3) shut (C + 1) R))) M none none) rfl rfl rfl (by lia) (by lia)
  obtain ⟨L2, s2, r2⟩ := rows_call a ns 6 M (R + 1) (ρ := E1 ns most walkers shut C R (cell ns 3) (.lst .f (gridD .f (gridR (cell ns 2) shut C (R + 1)))) (.lst .f (gridD .f (gridU (cell ns 3) shut (C + 1) R))) M (some (.lst .f (L1.map D.int))) none) rfl rfl rfl (by lia) (by lia)
  have h4 : gSet 4 (fFz (f2 dCat (fC (.int 1)) (f2 dMod (fCallN 2 (F__law_cell_at a) (faCons (fVar 0) (faCons (fC (.int 0)) faNil))) (fVar 1)))) (E0 ns most walkers shut none none none none none none) = .nx (E0 ns most walkers shut (some (.int ((C : Int) + 1))) none none none none none) := by
    have := setz (i := 4) (ρ := E0 ns most walkers shut none none none none none none) (mod_cell a ns 0 1 most rfl rfl (by lia)) (ntb rfl) (by show 4 < 12; decide)
    rw [hC, fz_int] at this
    exact this
  have h5 : gSet 5 (fFz (f2 dCat (fC (.int 1)) (f2 dMod (fCallN 2 (F__law_cell_at a) (faCons (fVar 0) (faCons (fC (.int 1)) faNil))) (fVar 1)))) (E0 ns most walkers shut (some (.int ((C : Int) + 1))) none none none none none) = .nx (E0 ns most walkers shut (some (.int ((C : Int) + 1))) (some (.int ((R + 1 : Nat) : Int))) none none none none) := by
    have := setz (i := 5) (ρ := E0 ns most walkers shut (some (.int ((C : Int) + 1))) none none none none none) (mod_cell a ns 1 1 most rfl rfl (by lia)) (ntb rfl) (by show 5 < 12; decide)
    rw [hR, fz_int] at this
    exact this
  have h6 : gSet 6 (fFz (fCallN 2 (F__law_cell_at a) (faCons (fVar 0) (faCons (fC (.int 2)) faNil)))) (E0 ns most walkers shut (some (.int ((C : Int) + 1))) (some (.int ((R + 1 : Nat) : Int))) none none none none) = .nx (E0 ns most walkers shut (some (.int ((C : Int) + 1))) (some (.int ((R + 1 : Nat) : Int))) (some (.int (cell ns 2))) none none none) := by
    have := setz (i := 6) (ρ := E0 ns most walkers shut (some (.int ((C : Int) + 1))) (some (.int ((R + 1 : Nat) : Int))) none none none none) (cell_call a ns 2 rfl) (ntb rfl) (by show 6 < 12; decide)
    rw [fz_int] at this
    exact this
  have h7 : gSet 7 (fFz (fCompX 1 [3, 4, 6] (fiR1 (faCons (fVar 5) faNil)) (tgName 0) ftTrue (feR a))) (E0 ns most walkers shut (some (.int ((C : Int) + 1))) (some (.int ((R + 1 : Nat) : Int))) (some (.int (cell ns 2))) none none none) = .nx (E0 ns most walkers shut (some (.int ((C : Int) + 1))) (some (.int ((R + 1 : Nat) : Int))) (some (.int (cell ns 2))) (some (.lst .f (gridD .f (gridR (cell ns 2) shut C (R + 1))))) none none) := by
    have := setz (i := 7) (ρ := E0 ns most walkers shut (some (.int ((C : Int) + 1))) (some (.int ((R + 1 : Nat) : Int))) (some (.int (cell ns 2))) none none none) (grid_right a (cell ns 2) shut C (R + 1) hs (by lia) (by lia) rfl rfl rfl rfl) (ntb rfl) (by show 7 < 12; decide)
    rw [fz_lst, fzs_grid] at this
    exact this
  have h6b : gSet 6 (fFz (fCallN 2 (F__law_cell_at a) (faCons (fVar 0) (faCons (fC (.int 3)) faNil)))) (E0 ns most walkers shut (some (.int ((C : Int) + 1))) (some (.int ((R + 1 : Nat) : Int))) (some (.int (cell ns 2))) (some (.lst .f (gridD .f (gridR (cell ns 2) shut C (R + 1))))) none none) = .nx (E0 ns most walkers shut (some (.int ((C : Int) + 1))) (some (.int ((R + 1 : Nat) : Int))) (some (.int (cell ns 3))) (some (.lst .f (gridD .f (gridR (cell ns 2) shut C (R + 1))))) none none) := by
    have := setz (i := 6) (ρ := (E0 ns most walkers shut (some (.int ((C : Int) + 1))) (some (.int ((R + 1 : Nat) : Int))) (some (.int (cell ns 2))) (some (.lst .f (gridD .f (gridR (cell ns 2) shut C (R + 1))))) none none)) (cell_call a ns 3 rfl) (ntb rfl) (by show 6 < 12; decide)
    rw [fz_int] at this
    exact this
  have h8 : gSet 8 (fFz (fCompX 1 [3, 4, 6] (fiR1 (faCons (f2 dSub (fVar 5) (fC (.int 1))) faNil)) (tgName 0) ftTrue (feU a))) (E0 ns most walkers shut (some (.int ((C : Int) + 1))) (some (.int ((R + 1 : Nat) : Int))) (some (.int (cell ns 3))) (some (.lst .f (gridD .f (gridR (cell ns 2) shut C (R + 1))))) none none) = .nx (E0 ns most walkers shut (some (.int ((C : Int) + 1))) (some (.int ((R + 1 : Nat) : Int))) (some (.int (cell ns 3))) (some (.lst .f (gridD .f (gridR (cell ns 2) shut C (R + 1))))) (some (.lst .f (gridD .f (gridU (cell ns 3) shut (C + 1) R)))) none) := by
    have := setz (i := 8) (ρ := (E0 ns most walkers shut (some (.int ((C : Int) + 1))) (some (.int ((R + 1 : Nat) : Int))) (some (.int (cell ns 3))) (some (.lst .f (gridD .f (gridR (cell ns 2) shut C (R + 1))))) none none)) (grid_up a (cell ns 3) shut (C + 1) R hs (by lia) (by lia) rfl rfl rfl rfl) (ntb rfl) (by show 8 < 12; decide)
    rw [fz_lst, fzs_grid] at this
    exact this
  have h9 : gSet 9 (fFz (f2 dCat (fC (.int 1)) (f2 dMod (fCallN 2 (F__law_cell_at a) (faCons (fVar 0) (faCons (fC (.int 4)) faNil))) (fCB cMin2 (faCons (fVar 2) (faCons (fVar 5) faNil)))))) (E0 ns most walkers shut (some (.int ((C : Int) + 1))) (some (.int ((R + 1 : Nat) : Int))) (some (.int (cell ns 3))) (some (.lst .f (gridD .f (gridR (cell ns 2) shut C (R + 1))))) (some (.lst .f (gridD .f (gridU (cell ns 3) shut (C + 1) R)))) none) = .nx (E1 ns most walkers shut C R (cell ns 3) (.lst .f (gridD .f (gridR (cell ns 2) shut C (R + 1)))) (.lst .f (gridD .f (gridU (cell ns 3) shut (C + 1) R))) M none none) := by
    have e := (f2of (g := dCat) (f1 := fC (.int 1)) (x := .int 1) (ρ := (E0 ns most walkers shut (some (.int ((C : Int) + 1))) (some (.int ((R + 1 : Nat) : Int))) (some (.int (cell ns 3))) (some (.lst .f (gridD .f (gridR (cell ns 2) shut C (R + 1))))) (some (.lst .f (gridD .f (gridU (cell ns 3) shut (C + 1) R)))) none)) rfl ((f2of (g := dMod) (cell_call a ns 4 rfl) (show fCB cMin2 (faCons (fVar 2) (faCons (fVar 5) faNil)) (E0 ns most walkers shut (some (.int ((C : Int) + 1))) (some (.int ((R + 1 : Nat) : Int))) (some (.int (cell ns 3))) (some (.lst .f (gridD .f (gridR (cell ns 2) shut C (R + 1))))) (some (.lst .f (gridD .f (gridU (cell ns 3) shut (C + 1) R)))) none) = .ok (.int (if ((R : Int) + 1) < (walkers : Int) then ((R : Int) + 1) else (walkers : Int))) from rfl)).trans (o_mod _ _ hmn))).trans (o_cat _ _)
    have := setz (i := 9) e (ntb rfl) (by show 9 < 12; decide)
    rw [hM, fz_int] at this
    exact this
  have h10 : gSet 10 (fFz (fCallN 3 (F__law_rows_by a) (faCons (fCallN 2 (F__law_cell_at a) (faCons (fVar 0) (faCons (fC (.int 5)) faNil))) (faCons (fVar 9) (faCons (fVar 5) faNil))))) (E1 ns most walkers shut C R (cell ns 3) (.lst .f (gridD .f (gridR (cell ns 2) shut C (R + 1)))) (.lst .f (gridD .f (gridU (cell ns 3) shut (C + 1) R))) M none none) = .nx (E1 ns most walkers shut C R (cell ns 3) (.lst .f (gridD .f (gridR (cell ns 2) shut C (R + 1)))) (.lst .f (gridD .f (gridU (cell ns 3) shut (C + 1) R))) M (some (.lst .f (L1.map D.int))) none) := by
    have := setz (i := 10) s1 (ntb rfl) (by show 10 < 12; decide)
    rw [fz_lst, fzs_ints] at this
    exact this
  have h11 : gSet 11 (fFz (fCallN 3 (F__law_rows_by a) (faCons (fCallN 2 (F__law_cell_at a) (faCons (fVar 0) (faCons (fC (.int 6)) faNil))) (faCons (fVar 9) (faCons (fVar 5) faNil))))) (E1 ns most walkers shut C R (cell ns 3) (.lst .f (gridD .f (gridR (cell ns 2) shut C (R + 1)))) (.lst .f (gridD .f (gridU (cell ns 3) shut (C + 1) R))) M (some (.lst .f (L1.map D.int))) none) = .nx (E1 ns most walkers shut C R (cell ns 3) (.lst .f (gridD .f (gridR (cell ns 2) shut C (R + 1)))) (.lst .f (gridD .f (gridU (cell ns 3) shut (C + 1) R))) M (some (.lst .f (L1.map D.int))) (some (.lst .f (L2.map D.int)))) := by
    have := setz (i := 11) s2 (ntb rfl) (by show 11 < 12; decide)
    rw [fz_lst, fzs_ints] at this
    exact this
  have hret : ∀ S T : List Int, gRet (fTup (faCons (fVar 7) (faCons (fVar 8) (faCons (fVar 10) (faCons (fVar 11) faNil))))) (E1 ns most walkers shut C R (cell ns 3) (.lst .f (gridD .f (gridR (cell ns 2) shut C (R + 1)))) (.lst .f (gridD .f (gridU (cell ns 3) shut (C + 1) R))) M (some (.lst .f ((S).map D.int))) (some (.lst .f ((T).map D.int)))) = .rt (Parts.d ⟨C + 1, R + 1, gridR (cell ns 2) shut C (R + 1), gridU (cell ns 3) shut (C + 1) R, S, T⟩) := fun S T => by
    have hz : (4 : Nat) ≤ sizeLine := by decide
    simp_arith [E1, hz, fzs_grid, fzs_ints, Parts.d]
  have htest : ft2 dGt (f2 dMod (fCallN 2 (F__law_cell_at a) (faCons (fVar 0) (faCons (fC (.int 7)) faNil))) (fC (.int 3))) (fC (.int 0)) (E1 ns most walkers shut C R (cell ns 3) (.lst .f (gridD .f (gridR (cell ns 2) shut C (R + 1)))) (.lst .f (gridD .f (gridU (cell ns 3) shut (C + 1) R))) M (some (.lst .f ((L1).map D.int))) (some (.lst .f ((L2).map D.int)))) = .ok (decide (0 < cell ns 7 % 3)) := by
    have hc7 : (fCallN 2 (F__law_cell_at a) (faCons (fVar 0) (faCons (fC (.int 7)) faNil))) (E1 ns most walkers shut C R (cell ns 3) (.lst .f (gridD .f (gridR (cell ns 2) shut C (R + 1)))) (.lst .f (gridD .f (gridU (cell ns 3) shut (C + 1) R))) M (some (.lst .f ((L1).map D.int))) (some (.lst .f ((L2).map D.int)))) = .ok (.int (cell ns 7)) := cell_call a ns 7 rfl
    have hx : f2 dGt (f2 dMod (fCallN 2 (F__law_cell_at a) (faCons (fVar 0) (faCons (fC (.int 7)) faNil))) (fC (.int 3))) (fC (.int 0)) (E1 ns most walkers shut C R (cell ns 3) (.lst .f (gridD .f (gridR (cell ns 2) shut C (R + 1)))) (.lst .f (gridD .f (gridU (cell ns 3) shut (C + 1) R))) M (some (.lst .f ((L1).map D.int))) (some (.lst .f ((L2).map D.int)))) = .ok (.bl (decide (0 < cell ns 7 % 3))) :=
      (f2of (g := dGt) (y := .int 0) ((f2of (g := dMod) (y := .int 3) hc7 rfl).trans (o_mod _ _ (by decide))) rfl).trans (o_gt _ _)
    unfold ft2
    rw [hx, bok, o_asB]
  have hgood : ∀ S T : List Int, Rising ((R + 1 : Nat) : Int) M S → Rising ((R + 1 : Nat) : Int) M T → Good most walkers ⟨C + 1, R + 1, gridR (cell ns 2) shut C (R + 1), gridU (cell ns 3) shut (C + 1) R, S, T⟩ := fun S T q1 q2 => by
    have g1 := gridR_ok (cell ns 2) shut C (R + 1) hs
    have g2 := gridU_ok (cell ns 3) shut (C + 1) R hs
    exact ⟨⟨by show 1 ≤ C + 1; lia, by show C + 1 ≤ most; lia⟩, ⟨by show 1 ≤ R + 1; lia, by show R + 1 ≤ most; lia⟩, g1.1, fun r hr => ⟨by rw [(g1.2 r hr).1], (g1.2 r hr).2⟩, by rw [g2.1], fun r hr => g2.2 r hr, M, hM2, hM3.2, q1, q2⟩
  have go : ∀ S T : List Int, gIf (ft2 dGt (f2 dMod (fCallN 2 (F__law_cell_at a) (faCons (fVar 0) (faCons (fC (.int 7)) faNil))) (fC (.int 3))) (fC (.int 0))) (gSeq (gSet 10 (fFz (fListR1 (faCons (fVar 9) faNil)))) (gSet 11 (fFz (fCompX 1 [5, 9] (fiR1 (faCons (fVar 9) faNil)) (tgName 0) ftTrue (f2 dCat (f2 dSub (fVar 1) (fVar 2)) (fVar 0)))))) gSkip (E1 ns most walkers shut C R (cell ns 3) (.lst .f (gridD .f (gridR (cell ns 2) shut C (R + 1)))) (.lst .f (gridD .f (gridU (cell ns 3) shut (C + 1) R))) M (some (.lst .f ((L1).map D.int))) (some (.lst .f ((L2).map D.int)))) = .nx (E1 ns most walkers shut C R (cell ns 3) (.lst .f (gridD .f (gridR (cell ns 2) shut C (R + 1)))) (.lst .f (gridD .f (gridU (cell ns 3) shut (C + 1) R))) M (some (.lst .f ((S).map D.int))) (some (.lst .f ((T).map D.int)))) →
      F__law_parts_by a [.scr ns, .int most, .int walkers, .int shut] = .ok (Parts.d ⟨C + 1, R + 1, gridR (cell ns 2) shut C (R + 1), gridU (cell ns 3) shut (C + 1) R, S, T⟩) := fun S T hif => by
    refine body_rt ?_
    show g__law_parts_by a (E0 ns most walkers shut none none none none none none) = _
    unfold g__law_parts_by
    rw [seq_nx h4, seq_nx h5, seq_nx h6, seq_nx h7, seq_nx h6b, seq_nx h8, seq_nx h9, seq_nx h10, seq_nx h11, seq_nx hif]
    exact hret S T
  by_cases ht : 0 < cell ns 7 % 3
  · have k10 : gSet 10 (fFz (fListR1 (faCons (fVar 9) faNil))) (E1 ns most walkers shut C R (cell ns 3) (.lst .f (gridD .f (gridR (cell ns 2) shut C (R + 1)))) (.lst .f (gridD .f (gridU (cell ns 3) shut (C + 1) R))) M (some (.lst .f ((L1).map D.int))) (some (.lst .f ((L2).map D.int)))) = .nx (E1 ns most walkers shut C R (cell ns 3) (.lst .f (gridD .f (gridR (cell ns 2) shut C (R + 1)))) (.lst .f (gridD .f (gridU (cell ns 3) shut (C + 1) R))) M (some (.lst .f (((List.range M).map fun (i : Nat) => (0 + (i : Int))).map D.int))) (some (.lst .f ((L2).map D.int)))) := by
      have := setz (i := 10) (ρ := (E1 ns most walkers shut C R (cell ns 3) (.lst .f (gridD .f (gridR (cell ns 2) shut C (R + 1)))) (.lst .f (gridD .f (gridU (cell ns 3) shut (C + 1) R))) M (some (.lst .f ((L1).map D.int))) (some (.lst .f ((L2).map D.int))))) (listR1_ok (n := M) (fa := faCons (fVar 9) faNil) rfl (by lia)) (ntb rfl) (by show 10 < 12; decide)
      rw [rints_map, fz_lst, fzs_ints] at this
      exact this
    have k11 : gSet 11 (fFz (fCompX 1 [5, 9] (fiR1 (faCons (fVar 9) faNil)) (tgName 0) ftTrue (f2 dCat (f2 dSub (fVar 1) (fVar 2)) (fVar 0)))) (E1 ns most walkers shut C R (cell ns 3) (.lst .f (gridD .f (gridR (cell ns 2) shut C (R + 1)))) (.lst .f (gridD .f (gridU (cell ns 3) shut (C + 1) R))) M (some (.lst .f (((List.range M).map fun (i : Nat) => (0 + (i : Int))).map D.int))) (some (.lst .f ((L2).map D.int)))) = .nx (E1 ns most walkers shut C R (cell ns 3) (.lst .f (gridD .f (gridR (cell ns 2) shut C (R + 1)))) (.lst .f (gridD .f (gridU (cell ns 3) shut (C + 1) R))) M (some (.lst .f (((List.range M).map fun (i : Nat) => (0 + (i : Int))).map D.int))) (some (.lst .f (((List.range M).map fun (i : Nat) => (((R + 1 : Nat) : Int) - (M : Int) + (i : Int))).map D.int)))) := by
      have e := comp1 (cap := [5, 9]) (fi := fiR1 (faCons (fVar 9) faNil)) (fe := f2 dCat (f2 dSub (fVar 1) (fVar 2)) (fVar 0)) (ρ := (E1 ns most walkers shut C R (cell ns 3) (.lst .f (gridD .f (gridR (cell ns 2) shut C (R + 1)))) (.lst .f (gridD .f (gridU (cell ns 3) shut (C + 1) R))) M (some (.lst .f (((List.range M).map fun (i : Nat) => (0 + (i : Int))).map D.int))) (some (.lst .f ((L2).map D.int))))) (items := rints 0 M) ((onI fun (x : Int) => D.int (((R + 1 : Nat) : Int) - (M : Int) + x))) (fiR1_ok rfl (by lia)) (fun d hd => by
        obtain ⟨x, hx, rfl⟩ := mem_rints hd
        exact ⟨rfl, ntb rfl⟩) (by simp [rints]; lia)
      have := setz (i := 11) e (ntb rfl) (by show 11 < 12; decide)
      rw [fz_lst] at this
      have hm2 : ((rints 0 M).map (onI fun (x : Int) => D.int (((R + 1 : Nat) : Int) - (M : Int) + x))) = ((List.range M).map fun (i : Nat) => (((R + 1 : Nat) : Int) - (M : Int) + (i : Int))).map D.int := row_map M fun x => ((R + 1 : Nat) : Int) - (M : Int) + x
      have hm3 := congrArg (fun l => D.fzs l) hm2
      refine this.trans ?_
      refine (congrArg (fun l => FOut.nx (List.set (E1 ns most walkers shut C R (cell ns 3) (.lst .f (gridD .f (gridR (cell ns 2) shut C (R + 1)))) (.lst .f (gridD .f (gridU (cell ns 3) shut (C + 1) R))) M (some (.lst .f (((List.range M).map fun (i : Nat) => (0 + (i : Int))).map D.int))) (some (.lst .f ((L2).map D.int)))) 11 (some (.lst .f l)))) (hm3.trans (fzs_ints _))).trans rfl
    refine ⟨_, hgood _ _ (rising_range (R + 1) M (by lia)) (rising_top (R + 1) M (by lia)), _, go _ _ ?_, rfl⟩
    unfold gIf
    rw [htest, aok, decide_eq_true ht, if_pos rfl, seq_nx k10]
    exact k11
  · refine ⟨_, hgood _ _ r1 r2, _, go _ _ ?_, rfl⟩
    unfold gIf
    rw [htest, aok, decide_eq_false ht, if_neg (by decide)]
    rfl
end Lw
namespace Lw
open Mi PySem
theorem chain_ii {p p' : Int → Int → Bool} {fa fb fc : FEnv → Res D} {ρ : FEnv} {i j k : Int} (h1 : fa ρ = .ok (.int i)) (h2 : fb ρ = .ok (.int j)) (h3 : fc ρ = .ok (.int k)) : fChainI p p' fa fb fc ρ = .ok (.bl (p i j && p' j k)) := by
  unfold fChainI
  rw [h1, bok, h2, bok]
  show (if p i j = true then fc ρ >>= _ else _) = _
  by_cases h : p i j = true
  · rw [if_pos h, h3, bok, h, Bool.true_and]
  · rw [if_neg h]
    have : p i j = false := by simpa using h
    rw [this, Bool.false_and]
theorem pass_if {f : FEnv → Res D} {g : FEnv → FOut} {ρ : FEnv} (h : f ρ = .ok (.bl true)) : gIf (ftNot (ftB f)) g gSkip ρ = .nx ρ := by
  unfold gIf ftNot ftB
  rw [h, bok, o_asB, bok, aok]
  rfl
theorem pass_ne {fa fb : FEnv → Res D} {g : FEnv → FOut} {ρ : FEnv} {i : Int} (h1 : fa ρ = .ok (.int i)) (h2 : fb ρ = .ok (.int i)) : gIf (ft2 (dEqS true) fa fb) g gSkip ρ = .nx ρ := by
  unfold gIf ft2
  rw [f2of h1 h2, o_nei, bok, o_asB, aok]
  simp [gSkip]
theorem body_nx {N : Nat} {g : FEnv → FOut} {ds : List D} {r : FEnv} (h : g (ds.map some ++ List.replicate (N - ds.length) none) = .nx r) : bodyF N g ds = .ok .non := by unfold bodyF; rw [h]
theorem check_side (a : Ads) (n : Int) (h1 : 1 ≤ n) (h2 : n ≤ 8) : F_check_side a [.int n] = .ok .non := by
  refine body_nx (r := [some (.int n)]) ?_
  show g_check_side a [some (.int n)] = _
  unfold g_check_side
  refine pass_if ?_
  rw [chain_ii (i := 1) (j := n) (k := 8) rfl rfl rfl, decide_eq_true h1, decide_eq_true h2]
  rfl
theorem len_call {j : Nat} {ρ : FEnv} {t : Tg} {xs : List D} (h : ρ[j]? = some (some (.lst t xs))) (ht : t = .f) : fCB cLen (faCons (fVar j) faNil) ρ = .ok (.int xs.length) := by
  subst ht
  unfold fCB
  rw [facons (fVar_at j ρ _ h) rfl, bok]
  rfl
theorem map_asF_grid (g : List (List Int)) : (gridD .f g).map D.asF = gridD .f g := by
  unfold gridD
  rw [List.map_map]
  exact List.map_congr_left fun r _ => rfl
theorem map_asF_ints (L : List Int) : (L.map D.int).map D.asF = L.map D.int := by
  rw [List.map_map]
  exact List.map_congr_left fun r _ => rfl
theorem any_grid {j : Nat} {ρ : FEnv} {g : List (List Int)} (h : ρ[j]? = some (some (.lst .f (gridD .f g)))) : fiAny (fVar j) ρ = .ok (gridD .f g) := by
  unfold fiAny
  rw [fVar_at j ρ _ h, bok]
  show (if (Tg.f = Tg.b) then Res.bad else ofOpt (some ((gridD .f g).map D.asF))) = _
  rw [if_neg (by decide), map_asF_grid]
  rfl
theorem any_ints {j : Nat} {ρ : FEnv} {L : List Int} (h : ρ[j]? = some (some (.lst .f (L.map D.int)))) : fiAny (fVar j) ρ = .ok (L.map D.int) := by
  unfold fiAny
  rw [fVar_at j ρ _ h, bok]
  show (if (Tg.f = Tg.b) then Res.bad else ofOpt (some ((L.map D.int).map D.asF))) = _
  rw [if_neg (by decide), map_asF_ints]
  rfl
end Lw
namespace Lw
open Mi PySem
def inW : D → D
  | .int v => .bl (decide (0 ≤ v) && decide (v ≤ 1000))
  | d => d
theorem bls_map (f : Int → Bool) : ∀ r : List Int, blsOf (r.map fun v => D.bl (f v)) = some (r.map f)
  | [] => rfl
  | v :: r => by
    show (blsOf (r.map fun v => D.bl (f v))).map (f v :: ·) = _
    rw [bls_map f r]
    rfl
theorem all_in (r : List Int) (h : ∀ v ∈ r, 0 ≤ v ∧ v ≤ 1000) : cAll [.lst .o ((r.map D.int).map inW)] = .ok (.bl true) := by
  have e : (r.map D.int).map inW = r.map fun v => D.bl (decide (0 ≤ v) && decide (v ≤ 1000)) := by
    rw [List.map_map]
    exact List.map_congr_left fun v _ => rfl
  rw [e]
  unfold cAll
  simp only [bls_map]
  congr 2
  rw [List.all_eq_true]
  intro b hb
  obtain ⟨v, hv, rfl⟩ := List.mem_map.mp hb
  have := h v hv
  simp [this.1, this.2]
abbrev gbS (a : Ads) : FEnv → FOut := (gSeq (gIf (ft2 (dEqS true) (fCB cLen (faCons (fVar 3) faNil)) (fVar 2)) (fun _ => .exc (.ref a.BadNet)) gSkip)
  (gIf (ftNot (ftB (fCB cAll (faCons (fCompX 1 [] (fiAny (fVar 3)) (tgName 0) ftTrue (fChainI (fun i j => decide (i ≤ j)) (fun i j => decide (i ≤ j)) (fC (.int 0)) (fVar 0) (fC (.int 1000)))) faNil)))) (fun _ => .exc (.ref a.BadNet)) gSkip))
theorem steps_turn (a : Ads) (v0 v1 : Option D) (r : List Int) (hr : ∀ v ∈ r, 0 ≤ v ∧ v ≤ 1000) (hl : r.length ≤ 1000) : gbS a [v0, v1, some (.int r.length), some (.lst .f (r.map D.int))] = .nx [v0, v1, some (.int r.length), some (.lst .f (r.map D.int))] := by
  have hlen := len_call (j := 3) (ρ := [v0, v1, some (.int r.length), some (.lst .f (r.map D.int))]) rfl rfl
  rw [List.length_map] at hlen
  refine (seq_nx (pass_ne hlen rfl)).trans (pass_if ?_)
  have hc := comp1 (cap := []) (fi := fiAny (fVar 3)) (fe := fChainI (fun i j => decide (i ≤ j)) (fun i j => decide (i ≤ j)) (fC (.int 0)) (fVar 0) (fC (.int 1000))) (ρ := [v0, v1, some (.int r.length), some (.lst .f (r.map D.int))]) (items := r.map D.int) inW (any_ints rfl) (fun x hx => by
    obtain ⟨v, _, rfl⟩ := List.mem_map.mp hx
    exact ⟨chain_ii (i := 0) (j := v) (k := 1000) rfl rfl rfl, ntb rfl⟩) (by rw [List.length_map]; exact hl)
  unfold fCB
  rw [facons hc rfl, bok]
  exact all_in r hr
theorem steps_loop (a : Ads) (v0 v1 : Option D) (len : Nat) (hl : len ≤ 1000) : ∀ (g : List (List Int)) (e : Option D), (∀ r ∈ g, r.length = len ∧ ∀ v ∈ r, 0 ≤ v ∧ v ≤ 1000) → ∃ e', forF (tgName 3) (gbS a) (gridD .f g) [v0, v1, some (.int len), e] = .nx [v0, v1, some (.int len), e']
  | [], e, _ => ⟨e, rfl⟩
  | r :: g, e, h => by
    obtain ⟨h1, h2⟩ := h r List.mem_cons_self
    obtain ⟨e', k⟩ := steps_loop a v0 v1 len hl g (some (.lst .f (r.map D.int))) fun q hq => h q (List.mem_cons_of_mem _ hq)
    refine ⟨e', ?_⟩
    have st := steps_turn a v0 v1 r h2 (by lia)
    rw [h1] at st
    exact for_cons (xs := gridD .f g) rfl st k
theorem for_of {fi : FEnv → Res (List D)} {gt : D → FEnv → Res FEnv} {gb : FEnv → FOut} {ρ : FEnv} {items : List D} {o : FOut} (h1 : fi ρ = .ok items) (h2 : forF gt gb items ρ = o) : gFor fi gt gb ρ = o := by unfold gFor; rw [h1, aok, h2]
theorem check_steps (a : Ads) (g : List (List Int)) (len : Nat) (hl : len ≤ 1000) (h : ∀ r ∈ g, r.length = len ∧ ∀ v ∈ r, 0 ≤ v ∧ v ≤ 1000) : F_check_steps a [.lst .f (gridD .f g), .int g.length, .int len] = .ok .non := by
  obtain ⟨e', k⟩ := steps_loop a (some (.lst .f (gridD .f g))) (some (.int g.length)) len hl g none h
  refine body_nx (r := [some (.lst .f (gridD .f g)), some (.int g.length), some (.int len), e']) ?_
  show g_check_steps a [some (.lst .f (gridD .f g)), some (.int g.length), some (.int len), none] = _
  unfold g_check_steps
  have hlen := len_call (j := 0) (ρ := [some (.lst .f (gridD .f g)), some (.int g.length), some (.int len), none]) rfl rfl
  have : (gridD .f g).length = g.length := by simp [gridD]
  rw [this] at hlen
  exact (seq_nx (pass_ne hlen rfl)).trans (for_of (any_grid rfl) k)
end Lw
namespace Lw
open Mi PySem
abbrev gbB (a : Ads) : FEnv → FOut := (gSeq (gIf (ftNot (ftB (fChainI (fun i j => decide (i < j)) (fun i j => decide (i < j)) (fVar 2) (fVar 3) (fVar 1)))) (fun _ => .exc (.ref a.BadNet)) gSkip)
  (gSet 2 (fFz (fVar 3))))
theorem border_loop (a : Ads) (v0 : Option D) (rows : Int) : ∀ (L : List Int) (last : Int) (e : Option D), L.Pairwise (· < ·) → (∀ x ∈ L, last < x ∧ x < rows) → ∃ l' e', forF (tgName 3) (gbB a) (L.map D.int) [v0, some (.int rows), some (.int last), e] = .nx [v0, some (.int rows), some (.int l'), e']
  | [], last, e, _, _ => ⟨last, e, rfl⟩
  | x :: L, last, e, hp, h => by
    obtain ⟨h1, h2⟩ := h x List.mem_cons_self
    obtain ⟨q1, q2⟩ := List.pairwise_cons.mp hp
    obtain ⟨l', e', k⟩ := border_loop a v0 rows L x (some (.int x)) q2 fun y hy => ⟨q1 y hy, (h y (List.mem_cons_of_mem _ hy)).2⟩
    refine ⟨l', e', ?_⟩
    have st : gbB a [v0, some (.int rows), some (.int last), some (.int x)] = .nx [v0, some (.int rows), some (.int x), some (.int x)] := by
      refine (seq_nx (pass_if ?_)).trans ?_
      · rw [chain_ii (i := last) (j := x) (k := rows) rfl rfl rfl, decide_eq_true h1, decide_eq_true h2]
        rfl
      · have := setz (i := 2) (f := fVar 3) (ρ := [v0, some (.int rows), some (.int last), some (.int x)]) (d := .int x) rfl (ntb rfl) (by show 2 < 4; decide)
        rw [fz_int] at this
        exact this
    exact for_cons (xs := L.map D.int) rfl st k
theorem check_border (a : Ads) (L : List Int) (rows : Int) (m : Nat) (h1 : 1 ≤ m) (h2 : m ≤ 4) (r : Rising rows m L) : F_check_border a [.lst .f (L.map D.int), .int rows] = .ok .non := by
  obtain ⟨l', e', k⟩ := border_loop a (some (.lst .f (L.map D.int))) rows L (-1) none r.asc fun x hx => by have := r.inn x hx; lia
  refine body_nx (r := [some (.lst .f (L.map D.int)), some (.int rows), some (.int l'), e']) ?_
  show g_check_border a [some (.lst .f (L.map D.int)), some (.int rows), none, none] = _
  unfold g_check_border
  have hlen := len_call (j := 0) (ρ := [some (.lst .f (L.map D.int)), some (.int rows), none, none]) rfl rfl
  rw [List.length_map, r.len] at hlen
  refine (seq_nx (pass_if ?_)).trans ((seq_nx (r' := [some (.lst .f (L.map D.int)), some (.int rows), some (.int (-1)), none]) ?_).trans (for_of (any_ints rfl) k))
  · rw [chain_ii (i := 1) (j := m) (k := 4) rfl hlen rfl, decide_eq_true (show (1 : Int) ≤ m by lia), decide_eq_true (show (m : Int) ≤ 4 by lia)]
    rfl
  · have := setz (i := 2) (f := f1 dNeg (fC (.int 1))) (ρ := [some (.lst .f (L.map D.int)), some (.int rows), none, none]) (d := .int (-1)) rfl (ntb rfl) (by show 2 < 4; decide)
    rw [fz_int] at this
    exact this
end Lw
namespace Lw
open Mi PySem
theorem drop_ok {f : FEnv → Res D} {ρ : FEnv} {d : D} (h : f ρ = .ok d) : gDrop f ρ = .nx ρ := by unfold gDrop; rw [h, aok]
def cpL : D → D
  | .lst _ xs => .lst .o (xs.map D.asF)
  | d => d
theorem copy_grid {j : Nat} {ρ : FEnv} {g : List (List Int)} (h : ρ[j]? = some (some (.lst .f (gridD .f g)))) (hl : g.length ≤ 1000) : fCompX 1 [] (fiAny (fVar j)) (tgName 0) ftTrue (fCB cList (faCons (fVar 0) faNil)) ρ = .ok (.lst .o (gridD .o g)) := by
  have e := comp1 (cap := []) (fi := fiAny (fVar j)) (fe := fCB cList (faCons (fVar 0) faNil)) (ρ := ρ) (items := gridD .f g) cpL (any_grid h) (fun x hx => by
    obtain ⟨r, _, rfl⟩ := List.mem_map.mp hx
    exact ⟨rfl, ntb rfl⟩) (by simp [gridD]; exact hl)
  rw [e]
  congr 2
  unfold gridD
  rw [List.map_map]
  refine List.map_congr_left fun r _ => ?_
  show D.lst .o ((r.map D.int).map D.asF) = _
  rw [map_asF_ints]
theorem copy_ints {j : Nat} {ρ : FEnv} {L : List Int} (h : ρ[j]? = some (some (.lst .f (L.map D.int)))) : fCB cList (faCons (fVar j) faNil) ρ = .ok (.lst .o (L.map D.int)) := by
  unfold fCB
  rw [facons (fVar_at j ρ _ h) rfl, bok]
  show Res.ok (D.lst .o ((L.map D.int).map D.asF)) = _
  rw [map_asF_ints]
def flds (p : Parts) : List (Str × D) := [("right", .lst .f (gridD .f p.right)), ("up", .lst .f (gridD .f p.up)), ("starts", .lst .f (p.starts.map D.int)), ("ends", .lst .f (p.ends.map D.int)), ("columns", .int p.cols), ("rows", .int p.rows)]
def EN (x C : Addr) (p : Parts) (fs : List (Str × D)) (r c : Option D) : FEnv := [some (.slf x C fs), some (.lst .f (gridD .f p.right)), some (.lst .f (gridD .f p.up)), some (.lst .f (p.starts.map D.int)), some (.lst .f (p.ends.map D.int)), r, c]
end Lw
namespace Lw
open Mi PySem
theorem v_var {i : Nat} {ρ : FEnv} {d d' : D} (h : ρ[i]? = some (some d)) (hd : d.rd = d') : fVar i ρ = .ok d' := by rw [fVar_at i ρ d h, hd]
theorem v_C {d : D} {ρ : FEnv} : fC d ρ = .ok d := rfl
theorem v_f2 {g : D → D → Res D} {fa fb : FEnv → Res D} {ρ : FEnv} {x y z : D} (h1 : fa ρ = .ok x) (h2 : fb ρ = .ok y) (h3 : g x y = .ok z) : f2 g fa fb ρ = .ok z := by rw [f2of h1 h2, h3]
theorem v_f1 {g : D → Res D} {fa : FEnv → Res D} {ρ : FEnv} {x z : D} (h1 : fa ρ = .ok x) (h3 : g x = .ok z) : f1 g fa ρ = .ok z := by unfold f1; rw [h1, bok, h3]
theorem v_CB {g : List D → Res D} {fa : FEnv → Res (List D)} {ρ : FEnv} {x : List D} {z : D} (h1 : fa ρ = .ok x) (h3 : g x = .ok z) : fCB g fa ρ = .ok z := by unfold fCB; rw [h1, bok, h3]
theorem v_nil {ρ : FEnv} : faNil ρ = .ok [] := rfl
theorem small_size {n : Nat} (h : n ≤ 1000) : n ≤ sizeLine := Nat.le_trans h (by decide)
theorem v_tup {fa : FEnv → Res (List D)} {ρ : FEnv} {es es' : List D} (h1 : fa ρ = .ok es) (h2 : nb es = true) (h3 : es.length ≤ 1000) (h4 : D.fzs es = es') : fTup fa ρ = .ok (.tup es') := by
  unfold fTup; rw [h1, bok, if_pos (by rw [h2, decide_eq_true (small_size h3)]; rfl), h4]
theorem v_lst {fa : FEnv → Res (List D)} {ρ : FEnv} {es : List D} (h1 : fa ρ = .ok es) (h2 : nb es = true) (h3 : es.length ≤ 1000) : fLst fa ρ = .ok (.lst .o es) := by
  unfold fLst; rw [h1, bok, if_pos (by rw [h2, decide_eq_true (small_size h3)]; rfl)]
theorem v_call {n : Nat} {F : List D → Res D} {fa : FEnv → Res (List D)} {ρ : FEnv} {ds ds' : List D} {d : D} (h : fa ρ = .ok ds) (hn : ds.length = n) (hz : D.fzs ds = ds') (hF : F ds' = .ok d) (ha : (nb ds = true ∧ d.tag ≠ .b) ∨ d.atom = true) : fCallN n F fa ρ = .ok d := by
  unfold fCallN
  rw [h, bok, if_pos hn]
  unfold callF
  rw [hz, hF]
  show (if _ then _ else _) = _
  rw [if_pos ha]
theorem v_callX {n : Nat} {F : List D → Res D} {fa : FEnv → Res (List D)} {ρ : FEnv} {ds ds' : List D} {C : Value} (h : fa ρ = .ok ds) (hn : ds.length = n) (hz : D.fzs ds = ds') (hF : F ds' = .exc C) : fCallN n F fa ρ = .exc C := by
  unfold fCallN
  rw [h, bok, if_pos hn]
  unfold callF
  rw [hz, hF]
theorem v_fz {f : FEnv → Res D} {ρ : FEnv} {d d' : D} (h : f ρ = .ok d) (hb : d.tag ≠ .b) (hz : d.fz = d') : fFz f ρ = .ok d' := by rw [fz_ok h hb, hz]
theorem v_chain {p p' : Int → Int → Bool} {fa fb fc : FEnv → Res D} {ρ : FEnv} {i j k : Int} (h1 : fa ρ = .ok (.int i)) (h2 : fb ρ = .ok (.int j)) (h3 : fc ρ = .ok (.int k)) : fChainI p p' fa fb fc ρ = .ok (.bl (p i j && p' j k)) := chain_ii h1 h2 h3
theorem v_and {s t : FEnv → Res D} {ρ : FEnv} {b c : Bool} (h1 : s ρ = .ok (.bl b)) (h2 : t ρ = .ok (.bl c)) : fAnd s t ρ = .ok (.bl (b && c)) := by
  unfold fAnd; rw [h1, bok, o_asB, bok]; cases b <;> simp [h2]
theorem v_not {s : FEnv → Res D} {ρ : FEnv} {b : Bool} (h1 : s ρ = .ok (.bl b)) : fNot s ρ = .ok (.bl (!b)) := by
  unfold fNot; rw [h1, bok, o_asB, bok]
theorem t_2 {g : D → D → Res D} {fa fb : FEnv → Res D} {ρ : FEnv} {x y : D} {b : Bool} (h1 : fa ρ = .ok x) (h2 : fb ρ = .ok y) (h3 : g x y = .ok (.bl b)) : ft2 g fa fb ρ = .ok b := by
  unfold ft2; rw [f2of h1 h2, h3, bok, o_asB]
theorem t_B {f : FEnv → Res D} {ρ : FEnv} {b : Bool} (h1 : f ρ = .ok (.bl b)) : ftB f ρ = .ok b := by unfold ftB; rw [h1, bok, o_asB]
theorem t_not {t : FEnv → Res Bool} {ρ : FEnv} {b : Bool} (h1 : t ρ = .ok b) : ftNot t ρ = .ok (!b) := by unfold ftNot; rw [h1, bok]
theorem t_and {s t : FEnv → Res Bool} {ρ : FEnv} {b c : Bool} (h1 : s ρ = .ok b) (h2 : t ρ = .ok c) : ftAnd s t ρ = .ok (b && c) := by unfold ftAnd; rw [h1, bok]; cases b <;> simp [h2]
theorem t_or {s t : FEnv → Res Bool} {ρ : FEnv} {b c : Bool} (h1 : s ρ = .ok b) (h2 : t ρ = .ok c) : ftOr s t ρ = .ok (b || c) := by unfold ftOr; rw [h1, bok]; cases b <;> simp [h2]
theorem ix_tup {xs : List D} {k : Nat} {x x' : D} (h : xs[k]? = some x) (hx : x.asF = x') : dIx (.tup xs) (.int (k : Int)) = .ok x' := by
  have hk : k < xs.length := (List.getElem?_eq_some_iff.mp h).1
  have e : L2.ixN xs.length (k : Int) = some k := by unfold L2.ixN; rw [if_pos (by lia), if_pos (by lia)]; simp
  show (match L2.ixN xs.length (k : Int) with
    | some j => ofOpt (D.el (.tup xs) j)
    | none => Res.bad) = _
  rw [e]
  show ofOpt (xs[k]?.map D.asF) = _
  rw [h, ← hx]; rfl
theorem ix_lst {xs : List D} {k : Nat} {x x' : D} (h : xs[k]? = some x) (hx : x.asF = x') : dIx (.lst .f xs) (.int (k : Int)) = .ok x' := by
  have hk : k < xs.length := (List.getElem?_eq_some_iff.mp h).1
  have e : L2.ixN xs.length (k : Int) = some k := by unfold L2.ixN; rw [if_pos (by lia), if_pos (by lia)]; simp
  show (match L2.ixN xs.length (k : Int) with
    | some j => ofOpt (D.el (.lst .f xs) j)
    | none => Res.bad) = _
  rw [e]
  show ofOpt (xs[k]?.map D.asF) = _
  rw [h, ← hx]; rfl
theorem ix_lso {xs : List D} {k : Nat} {x : D} (h : xs[k]? = some x) : dIx (.lst .o xs) (.int (k : Int)) = .ok x := by
  have hk : k < xs.length := (List.getElem?_eq_some_iff.mp h).1
  have e : L2.ixN xs.length (k : Int) = some k := by unfold L2.ixN; rw [if_pos (by lia), if_pos (by lia)]; simp
  show (match L2.ixN xs.length (k : Int) with
    | some j => ofOpt (D.el (.lst .o xs) j)
    | none => Res.bad) = _
  rw [e]
  show ofOpt (xs[k]?) = _
  rw [h]; rfl
theorem ix_lsb {xs : List D} {k : Nat} {x x' : D} (h : xs[k]? = some x) (hx : x.rd = x') : dIx (.lst .b xs) (.int (k : Int)) = .ok x' := by
  have hk : k < xs.length := (List.getElem?_eq_some_iff.mp h).1
  have e : L2.ixN xs.length (k : Int) = some k := by unfold L2.ixN; rw [if_pos (by lia), if_pos (by lia)]; simp
  show (match L2.ixN xs.length (k : Int) with
    | some j => ofOpt (D.el (.lst .b xs) j)
    | none => Res.bad) = _
  rw [e]
  show ofOpt (xs[k]?.map D.rd) = _
  rw [h, ← hx]; rfl
theorem ix0 {x x' : D} {r : List D} (h : x.asF = x') : dIx (.tup (x :: r)) (.int 0) = .ok x' := ix_tup (k := 0) rfl h
theorem ix1 {x x' y : D} {r : List D} (h : x.asF = x') : dIx (.tup (y :: x :: r)) (.int 1) = .ok x' := ix_tup (k := 1) rfl h
theorem ix2 {x x' y z : D} {r : List D} (h : x.asF = x') : dIx (.tup (y :: z :: x :: r)) (.int 2) = .ok x' := ix_tup (k := 2) rfl h
theorem ix3 {x x' y z w : D} {r : List D} (h : x.asF = x') : dIx (.tup (y :: z :: w :: x :: r)) (.int 3) = .ok x' := ix_tup (k := 3) rfl h
theorem nb_n : nb [] = true := rfl
theorem nb_c {x : D} {xs : List D} (h : x.tag ≠ .b) (h2 : nb xs = true) : nb (x :: xs) = true := by
  unfold nb at *; rw [List.all_cons, h2]; cases e : x.tag <;> simp_all
theorem as_lst (t : Tg) (xs : List D) : (D.lst t xs).asF = .lst .f xs := rfl
theorem o_neg (i : Int) : dNeg (.int i) = .ok (.int (-i)) := rfl
theorem o_lenL (t : Tg) (xs : List D) : cLen [.lst t xs] = .ok (.int xs.length) := rfl
theorem s_set {i : Nat} {f : FEnv → Res D} {ρ ρ' : FEnv} {d : D} (h : f ρ = .ok d) (hb : d.tag ≠ .b) (hi : i < ρ.length) (he : ρ.set i (some d) = ρ') : gSet i f ρ = .nx ρ' := by rw [set_ok h hb hi, he]
theorem s_ret {f : FEnv → Res D} {ρ : FEnv} {d : D} (h : f ρ = .ok d) (hb : d.tag ≠ .b) : gRet f ρ = .rt d := by unfold gRet; rw [h, aok, if_neg hb]
theorem s_if {t : FEnv → Res Bool} {g1 g2 : FEnv → FOut} {ρ : FEnv} {b : Bool} (h : t ρ = .ok b) : gIf t g1 g2 ρ = if b = true then g1 ρ else g2 ρ := by unfold gIf; rw [h, aok]
theorem s_ift {t : FEnv → Res Bool} {g1 g2 : FEnv → FOut} {ρ : FEnv} {b : Bool} {o : FOut} (h : t ρ = .ok b) (hb : b = true) (h1 : g1 ρ = o) : gIf t g1 g2 ρ = o := by rw [s_if h, hb, if_pos rfl, h1]
theorem s_iff {t : FEnv → Res Bool} {g1 g2 : FEnv → FOut} {ρ : FEnv} {b : Bool} {o : FOut} (h : t ρ = .ok b) (hb : b = false) (h1 : g2 ρ = o) : gIf t g1 g2 ρ = o := by rw [s_if h, hb, if_neg (by decide), h1]
theorem s_seq {g1 g2 : FEnv → FOut} {ρ ρ' : FEnv} {o : FOut} (h : g1 ρ = .nx ρ') (h2 : g2 ρ' = o) : gSeq g1 g2 ρ = o := by rw [seq_nx h, h2]
theorem s_seqR {g1 g2 : FEnv → FOut} {ρ : FEnv} {d : D} (h : g1 ρ = .rt d) : gSeq g1 g2 ρ = .rt d := by unfold gSeq; rw [h]
theorem s_seqX {g1 g2 : FEnv → FOut} {ρ : FEnv} {C : Value} (h : g1 ρ = .exc C) : gSeq g1 g2 ρ = .exc C := by unfold gSeq; rw [h]
theorem b_rt {N : Nat} {g : FEnv → FOut} {ds : List D} {d : D} {ρ : FEnv} (hρ : ds.map some ++ List.replicate (N - ds.length) none = ρ) (h : g ρ = .rt d) : bodyF N g ds = .ok d := by subst hρ; exact body_rt h
theorem b_exc {N : Nat} {g : FEnv → FOut} {ds : List D} {C : Value} {ρ : FEnv} (hρ : ds.map some ++ List.replicate (N - ds.length) none = ρ) (h : g ρ = .exc C) : bodyF N g ds = .exc C := by subst hρ; unfold bodyF; rw [h]
theorem for_exc {gt : D → FEnv → Res FEnv} {gb : FEnv → FOut} {x : D} {xs : List D} {ρ ρ1 : FEnv} {C : Value} (h1 : gt x ρ = .ok ρ1) (h2 : gb ρ1 = .exc C) : forF gt gb (x :: xs) ρ = .exc C := by
  show (match gt x ρ with
    | .ok ρ1 => match gb ρ1 with
      | .nx ρ2 => forF gt gb xs ρ2
      | .ct ρ2 => forF gt gb xs ρ2
      | .bk ρ2 => .nx ρ2
      | r => r
    | _ => .bad) = _
  rw [h1]; simp only [h2]
theorem fz_ints (t : Tg) (L : List Int) : (D.lst t (L.map D.int)).fz = .lst .f (L.map D.int) := by rw [fz_lst, fzs_ints]
theorem fz_grid' (t t' : Tg) (g : List (List Int)) : (D.lst t (gridD t' g)).fz = .lst .f (gridD .f g) := by rw [fz_lst, fzs_grid]
theorem fz_pd (p : Parts) : p.d.fz = p.d := by
  unfold Parts.d; rw [fz_tup, fzs_cons, fzs_cons, fzs_cons, fzs_cons, fzs_nil, fz_grid', fz_grid', fz_ints, fz_ints]
theorem pd0 (p : Parts) : dIx p.d (.int 0) = .ok (.lst .f (gridD .f p.right)) := ix0 rfl
theorem pd1 (p : Parts) : dIx p.d (.int 1) = .ok (.lst .f (gridD .f p.up)) := ix1 rfl
theorem pd2 (p : Parts) : dIx p.d (.int 2) = .ok (.lst .f (p.starts.map D.int)) := ix2 rfl
theorem pd3 (p : Parts) : dIx p.d (.int 3) = .ok (.lst .f (p.ends.map D.int)) := ix3 rfl
theorem fzs_c {x y : D} {xs ys : List D} (h : x.fz = y) (h2 : D.fzs xs = ys) : D.fzs (x :: xs) = y :: ys := by rw [fzs_cons, h, h2]
end Lw
local macro_rules | `(tactic| array_get_dec) => `(tactic| ((repeat' first | (with_reducible exact Lw.fzs_nil) | (with_reducible apply Lw.fzs_c) | (with_reducible first | exact Lw.fz_int _ | exact Lw.fz_str _ | exact Lw.fz_bl _ | exact Lw.fz_non | exact Lw.fz_scr _ | exact Lw.fz_ins _ _ _ | exact Lw.fz_pd _ | exact Lw.fz_ints _ _ | exact Lw.fz_grid' _ _ _)); done))
local macro_rules | `(tactic| sizeOf_list_dec) => `(tactic| first
  | (((with_reducible apply Lw.v_var); (exact rfl); (with_reducible first | exact Lw.rd_int _ | exact Lw.rd_str _ | exact Lw.rd_bl _ | exact Lw.rd_lsf _ | exact Lw.rd_lso _ | exact Lw.rd_scr _)))
  | (with_reducible exact Lw.v_C)
  | (with_reducible exact Lw.v_nil)
  | (with_reducible apply Lw.v_f2)
  | (with_reducible apply Lw.v_f1)
  | (with_reducible apply Lw.v_CB)
  | (with_reducible apply Lw.facons)
  | (with_reducible apply Lw.v_tup)
  | (with_reducible exact Lw.o_cat _ _)
  | (with_reducible exact Lw.o_lt _ _)
  | (with_reducible exact Lw.o_gt _ _)
  | (with_reducible exact Lw.o_eqi _ _)
  | (with_reducible exact Lw.o_eqs _ _)
  | (with_reducible exact Lw.o_nei _ _)
  | (with_reducible exact Lw.o_neg _)
  | (with_reducible exact Lw.o_lenL _ _)
  | (with_reducible exact Lw.pd0 _)
  | (with_reducible exact Lw.pd1 _)
  | (with_reducible exact Lw.pd2 _)
  | (with_reducible exact Lw.pd3 _)
  | ((with_reducible apply Lw.ix0; (with_reducible first | exact Lw.as_lst _ _)))
  | ((with_reducible apply Lw.ix1; (with_reducible first | exact Lw.as_lst _ _)))
  | ((with_reducible apply Lw.ix2; (with_reducible first | exact Lw.as_lst _ _)))
  | ((with_reducible apply Lw.ix3; (with_reducible first | exact Lw.as_lst _ _)))
  | (with_reducible apply Lw.v_chain)
  | (with_reducible apply Lw.v_and)
  | (with_reducible apply Lw.v_not)
  | (with_reducible apply Lw.t_2)
  | (with_reducible apply Lw.t_B)
  | (with_reducible apply Lw.t_not)
  | (with_reducible apply Lw.t_and)
  | (with_reducible apply Lw.t_or)
  | (with_reducible apply Lw.v_lst)
  | (with_reducible apply Lw.v_call)
  | (with_reducible apply Lw.v_fz)
  | (with_reducible apply Lw.s_set)
  | (with_reducible apply Lw.s_ret)
  | (with_reducible exact Lw.nb_n)
  | (with_reducible apply Lw.nb_c)
  | (with_reducible exact Lw.fzs_nil)
  | (with_reducible apply Lw.fzs_c)
  | ((with_reducible first | exact Lw.fz_int _ | exact Lw.fz_str _ | exact Lw.fz_bl _ | exact Lw.fz_scr _ | exact Lw.fz_pd _ | exact Lw.fz_ints _ _ | exact Lw.fz_grid' _ _ _))
  | ((show Mi.D.tag _ ≠ _; exact Lw.ntb rfl))
  | ((show List.length _ ≤ _; exact Nat.le_of_ble_eq_true rfl))
  | ((show _ < List.length _; exact Nat.le_of_ble_eq_true rfl))
  | ((show List.length _ = _; exact rfl))
  | ((show List.set _ _ _ = _; (first | ((simp only [List.set_cons_zero, List.set_cons_succ]); with_reducible rfl) | exact rfl)))
  | ((show (_ ∧ _) ∨ Mi.D.atom _ = true; exact .inr rfl))
  | ((show (_ ∧ _) ∨ Mi.D.atom _ = true; exact .inl ⟨rfl, Lw.ntb rfl⟩)))
namespace Lw
open Mi PySem
theorem side_no (a : Ads) (n : Int) (h : ¬ (1 ≤ n ∧ n ≤ 8)) : F_check_side a [.int n] = .exc (.ref a.BadNet) := by
  refine b_exc rfl ?_
  show g_check_side a [some (.int n)] = _
  unfold g_check_side
  refine s_ift (t_not (t_B (v_chain (i := 1) (j := n) (k := 8) rfl rfl rfl))) ?_ rfl
  simp only [Bool.not_eq_true', Bool.and_eq_false_iff, decide_eq_false_iff_not]
  by_cases h1 : 1 ≤ n
  · exact .inr fun h2 => h ⟨h1, h2⟩
  · exact .inl h1
theorem all_is (r : List Int) : cAll [.lst .o ((r.map D.int).map inW)] = .ok (.bl (r.all fun v => decide (0 ≤ v) && decide (v ≤ 1000))) := by
  have e : (r.map D.int).map inW = r.map fun v => D.bl (decide (0 ≤ v) && decide (v ≤ 1000)) := by
    rw [List.map_map]
    exact List.map_congr_left fun v _ => rfl
  rw [e]
  unfold cAll
  simp only [bls_map]
  congr 2
  rw [List.all_map]
  rfl
theorem gbS_no (a : Ads) (v0 v1 : Option D) (len : Int) (r : List Int) (hl : r.length ≤ 1000) (h : ¬ ((r.length : Int) = len ∧ ∀ v ∈ r, 0 ≤ v ∧ v ≤ 1000)) : gbS a [v0, v1, some (.int len), some (.lst .f (r.map D.int))] = .exc (.ref a.BadNet) := by
  have hlen := len_call (j := 3) (ρ := [v0, v1, some (.int len), some (.lst .f (r.map D.int))]) rfl rfl
  rw [List.length_map] at hlen
  by_cases h1 : (r.length : Int) = len
  · have hc := comp1 (cap := []) (fi := fiAny (fVar 3)) (fe := fChainI (fun i j => decide (i ≤ j)) (fun i j => decide (i ≤ j)) (fC (.int 0)) (fVar 0) (fC (.int 1000))) (ρ := [v0, v1, some (.int len), some (.lst .f (r.map D.int))]) (items := r.map D.int) inW (any_ints rfl) (fun x hx => by
      obtain ⟨v, _, rfl⟩ := List.mem_map.mp hx
      exact ⟨chain_ii (i := 0) (j := v) (k := 1000) rfl rfl rfl, ntb rfl⟩) (by rw [List.length_map]; exact hl)
    rw [h1] at hlen
    refine (seq_nx (pass_ne hlen rfl)).trans ?_
    refine s_ift (t_not (t_B (v_CB (facons hc rfl) (all_is r)))) ?_ rfl
    rw [Bool.not_eq_true', List.all_eq_false]
    have : ¬ ∀ v ∈ r, 0 ≤ v ∧ v ≤ 1000 := fun z => h ⟨h1, z⟩
    simp only [Classical.not_forall] at this
    obtain ⟨v, hv, hn⟩ := this
    refine ⟨v, hv, fun z => hn ?_⟩
    simpa using z
  · refine s_seqX ?_
    refine s_ift (t_2 (b := !decide ((r.length : Int) = len)) hlen (v_var (d := .int len) rfl (rd_int _)) ?_) ?_ rfl
    · rw [o_nei]
    · simp [h1]
theorem gbS_ok (a : Ads) (v0 v1 : Option D) (len : Int) (r : List Int) (hl : r.length ≤ 1000) (h : (r.length : Int) = len ∧ ∀ v ∈ r, 0 ≤ v ∧ v ≤ 1000) : gbS a [v0, v1, some (.int len), some (.lst .f (r.map D.int))] = .nx [v0, v1, some (.int len), some (.lst .f (r.map D.int))] := by
  have := steps_turn a v0 v1 r h.2 hl
  rw [h.1] at this
  exact this
theorem loop_no (a : Ads) (v0 v1 : Option D) (len : Int) : ∀ (g : List (List Int)) (e : Option D), (∀ r ∈ g, r.length ≤ 1000) → (¬ ∀ r ∈ g, (r.length : Int) = len ∧ ∀ v ∈ r, 0 ≤ v ∧ v ≤ 1000) → forF (tgName 3) (gbS a) (gridD .f g) [v0, v1, some (.int len), e] = .exc (.ref a.BadNet)
  | [], _, _, h => absurd (fun _ m => nomatch m) h
  | r :: g, e, hl, h => by
    by_cases h1 : (r.length : Int) = len ∧ ∀ v ∈ r, 0 ≤ v ∧ v ≤ 1000
    · refine for_cons (xs := gridD .f g) rfl (gbS_ok a v0 v1 len r (hl r List.mem_cons_self) h1) (loop_no a v0 v1 len g _ (fun q m => hl q (List.mem_cons_of_mem _ m)) fun z => h fun q m => ?_)
      rcases List.mem_cons.mp m with rfl | m
      · exact h1
      · exact z q m
    · exact for_exc (xs := gridD .f g) rfl (gbS_no a v0 v1 len r (hl r List.mem_cons_self) h1)
theorem steps_no (a : Ads) (g : List (List Int)) (cnt len : Int) (hl : ∀ r ∈ g, r.length ≤ 1000) (h : ¬ ((g.length : Int) = cnt ∧ ∀ r ∈ g, (r.length : Int) = len ∧ ∀ v ∈ r, 0 ≤ v ∧ v ≤ 1000)) : F_check_steps a [.lst .f (gridD .f g), .int cnt, .int len] = .exc (.ref a.BadNet) := by
  refine b_exc rfl ?_
  show g_check_steps a [some (.lst .f (gridD .f g)), some (.int cnt), some (.int len), none] = _
  unfold g_check_steps
  have hlen := len_call (j := 0) (ρ := [some (.lst .f (gridD .f g)), some (.int cnt), some (.int len), none]) rfl rfl
  have : (gridD .f g).length = g.length := by simp [gridD]
  rw [this] at hlen
  by_cases h1 : (g.length : Int) = cnt
  · rw [h1] at hlen
    exact (seq_nx (pass_ne hlen rfl)).trans (for_of (any_grid rfl) (loop_no a _ _ len g none hl fun z => h ⟨h1, z⟩))
  · refine s_seqX ?_
    refine s_ift (t_2 (b := !decide ((g.length : Int) = cnt)) hlen (v_var (d := .int cnt) rfl (rd_int _)) ?_) ?_ rfl
    · rw [o_nei]
    · simp [h1]
def risesFrom (last rows : Int) : List Int → Prop
  | [] => True
  | x :: L => last < x ∧ x < rows ∧ risesFrom x rows L
theorem bloop_no (a : Ads) (v0 : Option D) (rows : Int) : ∀ (L : List Int) (last : Int) (e : Option D), ¬ risesFrom last rows L → forF (tgName 3) (gbB a) (L.map D.int) [v0, some (.int rows), some (.int last), e] = .exc (.ref a.BadNet)
  | [], _, _, h => absurd trivial h
  | x :: L, last, e, h => by
    by_cases h1 : last < x ∧ x < rows
    · have st : gbB a [v0, some (.int rows), some (.int last), some (.int x)] = .nx [v0, some (.int rows), some (.int x), some (.int x)] := by
        refine (seq_nx (pass_if ?_)).trans ?_
        · rw [chain_ii (i := last) (j := x) (k := rows) rfl rfl rfl, decide_eq_true h1.1, decide_eq_true h1.2]
          rfl
        · have := setz (i := 2) (f := fVar 3) (ρ := [v0, some (.int rows), some (.int last), some (.int x)]) (d := .int x) rfl (ntb rfl) (by show 2 < 4; decide)
          rw [fz_int] at this
          exact this
      exact for_cons (xs := L.map D.int) rfl st (bloop_no a v0 rows L x _ fun z => h ⟨h1.1, h1.2, z⟩)
    · refine for_exc (xs := L.map D.int) (ρ1 := [v0, some (.int rows), some (.int last), some (.int x)]) rfl (s_seqX ?_)
      refine s_ift (t_not (t_B (v_chain (i := last) (j := x) (k := rows) rfl rfl rfl))) ?_ rfl
      simp only [Bool.not_eq_true', Bool.and_eq_false_iff, decide_eq_false_iff_not]
      by_cases h2 : last < x
      · exact .inr fun z => h1 ⟨h2, z⟩
      · exact .inl h2
def Bord (rows : Nat) (L : List Int) : Prop := (1 ≤ L.length ∧ L.length ≤ 4) ∧ risesFrom (-1) rows L
theorem border_no (a : Ads) (L : List Int) (rows : Nat) (h : ¬ Bord rows L) : F_check_border a [.lst .f (L.map D.int), .int rows] = .exc (.ref a.BadNet) := by
  refine b_exc rfl ?_
  show g_check_border a [some (.lst .f (L.map D.int)), some (.int rows), none, none] = _
  unfold g_check_border
  have hlen := len_call (j := 0) (ρ := [some (.lst .f (L.map D.int)), some (.int rows), none, none]) rfl rfl
  rw [List.length_map] at hlen
  by_cases h1 : 1 ≤ L.length ∧ L.length ≤ 4
  · refine (seq_nx (pass_if ?_)).trans ((seq_nx (r' := [some (.lst .f (L.map D.int)), some (.int rows), some (.int (-1)), none]) ?_).trans (for_of (any_ints rfl) (bloop_no a _ _ L (-1) none fun z => h ⟨h1, z⟩)))
    · rw [chain_ii (i := 1) (j := L.length) (k := 4) rfl hlen rfl, decide_eq_true (show (1 : Int) ≤ L.length by lia), decide_eq_true (show (L.length : Int) ≤ 4 by lia)]
      rfl
    · have := setz (i := 2) (f := f1 dNeg (fC (.int 1))) (ρ := [some (.lst .f (L.map D.int)), some (.int rows), none, none]) (d := .int (-1)) rfl (ntb rfl) (by show 2 < 4; decide)
      rw [fz_int] at this
      exact this
  · refine s_seqX ?_
    refine s_ift (t_not (t_B (v_chain (i := 1) (j := L.length) (k := 4) rfl hlen rfl))) ?_ rfl
    simp only [Bool.not_eq_true', Bool.and_eq_false_iff, decide_eq_false_iff_not]
    by_cases h2 : (1 : Int) ≤ L.length
    · exact .inr fun z => h1 ⟨by lia, by lia⟩
    · exact .inl h2
theorem rising_of (rows : Int) : ∀ (L : List Int) (last : Int), risesFrom last rows L → L.Pairwise (· < ·) ∧ ∀ x ∈ L, last < x ∧ x < rows
  | [], _, _ => ⟨.nil, fun _ m => nomatch m⟩
  | x :: L, last, h => by
    obtain ⟨h1, h2, h3⟩ := h
    obtain ⟨k1, k2⟩ := rising_of rows L x h3
    refine ⟨List.pairwise_cons.mpr ⟨fun y hy => (k2 y hy).1, k1⟩, fun y hy => ?_⟩
    rcases List.mem_cons.mp hy with rfl | hy
    · exact ⟨h1, h2⟩
    · have := k2 y hy; lia
end Lw
namespace Lw
open Mi PySem
theorem ownAlls_ints : ∀ L : List Int, ownAlls (L.map D.int) = true
  | [] => rfl
  | x :: L => by
    show (ownAll (.int x) && ownAlls (L.map D.int)) = true
    rw [ownAlls_ints L]; rfl
theorem ownAlls_grid : ∀ g : List (List Int), ownAlls (gridD .o g) = true
  | [] => rfl
  | r :: g => by
    show (ownAlls (r.map D.int) && ownAlls (gridD .o g)) = true
    rw [ownAlls_ints, ownAlls_grid g]; rfl
theorem fldN_ok {C p : Addr} {fld : Str} {fv : FEnv → Res D} {ρ : FEnv} {fs : List (Str × D)} {d : D} (h : ρ[0]? = some (some (.slf p C fs))) (hv : fv (frzAll ρ) = .ok d) (hb : ownAll d = true) (hl : fs.length < 1000) : gFldN C fld fv ρ = .nx (ρ.set 0 (some (.slf p C (putFD fld d.fz fs)))) := by
  unfold gFldN
  rw [h]
  simp only [hv, aok]
  rw [if_neg (fun z => z.elim (fun z => z rfl) fun z => z.elim (fun z => by rw [hb] at z; cases z) fun z => absurd z (by lia))]
theorem frz_EN (x C : Addr) (p : Parts) (fs : List (Str × D)) (i j : Int) : frzAll (EN x C p fs (some (.int i)) (some (.int j))) = [some (.ins .f C fs), some (.lst .f (gridD .f p.right)), some (.lst .f (gridD .f p.up)), some (.lst .f (p.starts.map D.int)), some (.lst .f (p.ends.map D.int)), some (.int i), some (.int j)] := by
  show [some (D.ins .f C fs), some (D.fz (.lst .f (gridD .f p.right))), some (D.fz (.lst .f (gridD .f p.up))), some (D.fz (.lst .f (p.starts.map D.int))), some (D.fz (.lst .f (p.ends.map D.int))), some (D.fz (.int i)), some (D.fz (.int j))] = _
  rw [fz_grid', fz_grid', fz_ints, fz_ints, fz_int, fz_int]
abbrev args (p : Parts) : List D := [.lst .f (gridD .f p.right), .lst .f (gridD .f p.up), .lst .f (p.starts.map D.int), .lst .f (p.ends.map D.int)]
theorem net_ok (a : Ads) (x : Addr) (p : Parts) (most walkers : Nat) (h8 : most ≤ 8) (h4 : walkers ≤ 4) (G : Good most walkers p) : I_Net a x (args p) = .ok (flds p) := by
  obtain ⟨m, m1, m2, rs, re⟩ := G.many
  have hrl : (gridD .f p.right).length = p.rows := by simp [gridD, G.rl]
  obtain ⟨r0, rest, hr0⟩ : ∃ r0 rest, p.right = r0 :: rest := by
    cases e : p.right with
    | nil => have := G.rl; have := G.r1; rw [e] at *; simp at *; lia
    | cons r0 rest => exact ⟨r0, rest, rfl⟩
  have hc0 : r0.length + 1 = p.cols := (G.rr r0 (by rw [hr0]; exact List.mem_cons_self)).1
  have l1 : ∀ fs r c, fCB cLen (faCons (fVar 1) faNil) (EN x a.Net p fs r c) = .ok (.int p.rows) := fun fs r c => by
    have := len_call (j := 1) (ρ := EN x a.Net p fs r c) rfl rfl
    rw [hrl] at this; exact this
  have s1 : ∀ fs r c, gDrop (fCallN 1 (F_check_side a) (faCons (fCB cLen (faCons (fVar 1) faNil)) faNil)) (EN x a.Net p fs r c) = .nx (EN x a.Net p fs r c) := fun fs r c =>
    drop_ok (callN_atom (d := .non) (ds := [.int p.rows]) (facons (l1 fs r c) rfl) rfl (by rw [fzs_cons, fzs_nil, fz_int]; exact check_side a _ (by have := G.r1; lia) (by have := G.r1; lia)) rfl)
  have s2 : gSet 5 (fFz (fCB cLen (faCons (fVar 1) faNil))) (EN x a.Net p [] none none) = .nx (EN x a.Net p [] (some (.int p.rows)) none) := by
    have := setz (i := 5) (l1 [] none none) (ntb rfl) (by show 5 < 7; decide)
    rw [fz_int] at this
    exact this
  have s3 : gSet 6 (fFz (f2 dCat (fCB cLen (faCons (f2 dIx (fVar 1) (fC (.int 0))) faNil)) (fC (.int 1)))) (EN x a.Net p [] (some (.int p.rows)) none) = .nx (EN x a.Net p [] (some (.int p.rows)) (some (.int p.cols))) := by
    have ix : f2 dIx (fVar 1) (fC (.int 0)) (EN x a.Net p [] (some (.int p.rows)) none) = .ok (.lst .f (r0.map D.int)) := by
      refine (f2of (g := dIx) (x := .lst .f (gridD .f p.right)) (y := .int 0) rfl rfl).trans ?_
      rw [hr0]
      show (match L2.ixN ((gridD .f (r0 :: rest)).length) 0 with
        | some j => ofOpt (D.el (.lst .f (gridD .f (r0 :: rest))) j)
        | none => Res.bad) = _
      have : L2.ixN ((gridD .f (r0 :: rest)).length) 0 = some 0 := by unfold L2.ixN; rw [if_pos (by lia), if_pos (by show (0 : Int) < ((gridD .f (r0 :: rest)).length : Int); rw [show (gridD .f (r0 :: rest)).length = rest.length + 1 by simp [gridD]]; lia)]; try rfl
      rw [this]
      rfl
    have ln : fCB cLen (faCons (f2 dIx (fVar 1) (fC (.int 0))) faNil) (EN x a.Net p [] (some (.int p.rows)) none) = .ok (.int r0.length) := by
      unfold fCB
      rw [facons ix rfl, bok]
      show Res.ok (D.int ((r0.map D.int).length : Nat)) = _
      rw [List.length_map]
    have := setz (i := 6) ((f2of (g := dCat) (f2' := fC (.int 1)) (y := .int 1) ln rfl).trans (o_cat _ _)) (ntb rfl) (by show 6 < 7; decide)
    rw [fz_int, show ((r0.length : Int) + 1) = (p.cols : Int) by lia] at this
    exact this
  have s4 : gDrop (fCallN 1 (F_check_side a) (faCons (fVar 6) faNil)) (EN x a.Net p [] (some (.int p.rows)) (some (.int p.cols))) = .nx (EN x a.Net p [] (some (.int p.rows)) (some (.int p.cols))) :=
    drop_ok (callN_atom (d := .non) (ds := [.int p.cols]) rfl rfl (by rw [fzs_cons, fzs_nil, fz_int]; exact check_side a _ (by have := G.c1; lia) (by have := G.c1; lia)) rfl)
  have s5 : gDrop (fCallN 3 (F_check_steps a) (faCons (fVar 1) (faCons (fVar 5) (faCons (f2 dSub (fVar 6) (fC (.int 1))) faNil)))) (EN x a.Net p [] (some (.int p.rows)) (some (.int p.cols))) = .nx (EN x a.Net p [] (some (.int p.rows)) (some (.int p.cols))) := by
    refine drop_ok (callN_atom (d := .non) (ds := [.lst .f (gridD .f p.right), .int p.rows, .int ((p.cols : Int) - 1)]) rfl rfl ?_ rfl)
    rw [fzs_cons, fzs_cons, fzs_cons, fzs_nil, fz_lst, fzs_grid, fz_int, fz_int, ← G.rl, show (p.cols : Int) - 1 = ((p.cols - 1 : Nat) : Int) by have := G.c1; lia]
    exact check_steps a p.right _ (by have := G.c1; lia) fun r hr => ⟨by have := (G.rr r hr).1; lia, (G.rr r hr).2⟩
  have s6 : gDrop (fCallN 3 (F_check_steps a) (faCons (fVar 2) (faCons (f2 dSub (fVar 5) (fC (.int 1))) (faCons (fVar 6) faNil)))) (EN x a.Net p [] (some (.int p.rows)) (some (.int p.cols))) = .nx (EN x a.Net p [] (some (.int p.rows)) (some (.int p.cols))) := by
    refine drop_ok (callN_atom (d := .non) (ds := [.lst .f (gridD .f p.up), .int ((p.rows : Int) - 1), .int p.cols]) rfl rfl ?_ rfl)
    rw [fzs_cons, fzs_cons, fzs_cons, fzs_nil, fz_lst, fzs_grid, fz_int, fz_int, show (p.rows : Int) - 1 = ((p.up.length : Nat) : Int) by have := G.ul; lia]
    exact check_steps a p.up _ (by have := G.c1; lia) fun r hr => G.ur r hr
  have s7 : gDrop (fCallN 2 (F_check_border a) (faCons (fVar 3) (faCons (fVar 5) faNil))) (EN x a.Net p [] (some (.int p.rows)) (some (.int p.cols))) = .nx (EN x a.Net p [] (some (.int p.rows)) (some (.int p.cols))) := by
    refine drop_ok (callN_atom (d := .non) (ds := [.lst .f (p.starts.map D.int), .int p.rows]) rfl rfl ?_ rfl)
    rw [fzs_cons, fzs_cons, fzs_nil, fz_lst, fzs_ints, fz_int]
    exact check_border a p.starts _ m m1 (by lia) rs
  have s8 : gDrop (fCallN 2 (F_check_border a) (faCons (fVar 4) (faCons (fVar 5) faNil))) (EN x a.Net p [] (some (.int p.rows)) (some (.int p.cols))) = .nx (EN x a.Net p [] (some (.int p.rows)) (some (.int p.cols))) := by
    refine drop_ok (callN_atom (d := .non) (ds := [.lst .f (p.ends.map D.int), .int p.rows]) rfl rfl ?_ rfl)
    rw [fzs_cons, fzs_cons, fzs_nil, fz_lst, fzs_ints, fz_int]
    exact check_border a p.ends _ m m1 (by lia) re
  have s9 : gIf (ft2 (dEqS true) (fCB cLen (faCons (fVar 3) faNil)) (fCB cLen (faCons (fVar 4) faNil))) (fun _ => .exc (.ref a.BadNet)) gSkip (EN x a.Net p [] (some (.int p.rows)) (some (.int p.cols))) = .nx (EN x a.Net p [] (some (.int p.rows)) (some (.int p.cols))) := by
    have e3 := len_call (j := 3) (ρ := (EN x a.Net p [] (some (.int p.rows)) (some (.int p.cols)))) rfl rfl
    have e4 := len_call (j := 4) (ρ := (EN x a.Net p [] (some (.int p.rows)) (some (.int p.cols)))) rfl rfl
    rw [List.length_map, rs.len] at e3
    rw [List.length_map, re.len] at e4
    exact pass_ne e3 e4
  have t1 : gFldN a.Net "right" (fCompX 1 [] (fiAny (fVar 1)) (tgName 0) ftTrue (fCB cList (faCons (fVar 0) faNil))) (EN x a.Net p [] (some (.int p.rows)) (some (.int p.cols))) = .nx (EN x a.Net p [("right", .lst .f (gridD .f p.right))] (some (.int p.rows)) (some (.int p.cols))) := by
    have := fldN_ok (C := a.Net) (p := x) (d := .lst .o (gridD .o p.right)) (fld := "right") (fs := []) (ρ := (EN x a.Net p [] (some (.int p.rows)) (some (.int p.cols)))) (fv := (fCompX 1 [] (fiAny (fVar 1)) (tgName 0) ftTrue (fCB cList (faCons (fVar 0) faNil)))) (by rfl) (by rw [frz_EN]; exact (copy_grid (j := 1) (g := p.right) rfl (by have := G.rl; have := G.r1; lia))) (ownAlls_grid _) (by show 0 < 1000; decide)
    rw [fz_lst, fzs_grid] at this
    exact this
  have t2 : gFldN a.Net "up" (fCompX 1 [] (fiAny (fVar 2)) (tgName 0) ftTrue (fCB cList (faCons (fVar 0) faNil))) (EN x a.Net p [("right", .lst .f (gridD .f p.right))] (some (.int p.rows)) (some (.int p.cols))) = .nx (EN x a.Net p [("right", .lst .f (gridD .f p.right)), ("up", .lst .f (gridD .f p.up))] (some (.int p.rows)) (some (.int p.cols))) := by
    have := fldN_ok (C := a.Net) (p := x) (d := .lst .o (gridD .o p.up)) (fld := "up") (fs := [("right", .lst .f (gridD .f p.right))]) (ρ := (EN x a.Net p [("right", .lst .f (gridD .f p.right))] (some (.int p.rows)) (some (.int p.cols)))) (fv := (fCompX 1 [] (fiAny (fVar 2)) (tgName 0) ftTrue (fCB cList (faCons (fVar 0) faNil)))) (by rfl) (by rw [frz_EN]; exact (copy_grid (j := 2) (g := p.up) rfl (by have := G.ul; have := G.r1; lia))) (ownAlls_grid _) (by show 1 < 1000; decide)
    rw [fz_lst, fzs_grid] at this
    exact this
  have t3 : gFldN a.Net "starts" (fCB cList (faCons (fVar 3) faNil)) (EN x a.Net p [("right", .lst .f (gridD .f p.right)), ("up", .lst .f (gridD .f p.up))] (some (.int p.rows)) (some (.int p.cols))) = .nx (EN x a.Net p [("right", .lst .f (gridD .f p.right)), ("up", .lst .f (gridD .f p.up)), ("starts", .lst .f (p.starts.map D.int))] (some (.int p.rows)) (some (.int p.cols))) := by
    have := fldN_ok (C := a.Net) (p := x) (d := .lst .o (p.starts.map D.int)) (fld := "starts") (fs := [("right", .lst .f (gridD .f p.right)), ("up", .lst .f (gridD .f p.up))]) (ρ := (EN x a.Net p [("right", .lst .f (gridD .f p.right)), ("up", .lst .f (gridD .f p.up))] (some (.int p.rows)) (some (.int p.cols)))) (fv := (fCB cList (faCons (fVar 3) faNil))) (by rfl) (by rw [frz_EN]; exact (copy_ints (j := 3) (L := p.starts) rfl)) (ownAlls_ints _) (by show 2 < 1000; decide)
    rw [fz_lst, fzs_ints] at this
    exact this
  have t4 : gFldN a.Net "ends" (fCB cList (faCons (fVar 4) faNil)) (EN x a.Net p [("right", .lst .f (gridD .f p.right)), ("up", .lst .f (gridD .f p.up)), ("starts", .lst .f (p.starts.map D.int))] (some (.int p.rows)) (some (.int p.cols))) = .nx (EN x a.Net p [("right", .lst .f (gridD .f p.right)), ("up", .lst .f (gridD .f p.up)), ("starts", .lst .f (p.starts.map D.int)), ("ends", .lst .f (p.ends.map D.int))] (some (.int p.rows)) (some (.int p.cols))) := by
    have := fldN_ok (C := a.Net) (p := x) (d := .lst .o (p.ends.map D.int)) (fld := "ends") (fs := [("right", .lst .f (gridD .f p.right)), ("up", .lst .f (gridD .f p.up)), ("starts", .lst .f (p.starts.map D.int))]) (ρ := (EN x a.Net p [("right", .lst .f (gridD .f p.right)), ("up", .lst .f (gridD .f p.up)), ("starts", .lst .f (p.starts.map D.int))] (some (.int p.rows)) (some (.int p.cols)))) (fv := (fCB cList (faCons (fVar 4) faNil))) (by rfl) (by rw [frz_EN]; exact (copy_ints (j := 4) (L := p.ends) rfl)) (ownAlls_ints _) (by show 3 < 1000; decide)
    rw [fz_lst, fzs_ints] at this
    exact this
  have t5 : gFldN a.Net "columns" (fVar 6) (EN x a.Net p [("right", .lst .f (gridD .f p.right)), ("up", .lst .f (gridD .f p.up)), ("starts", .lst .f (p.starts.map D.int)), ("ends", .lst .f (p.ends.map D.int))] (some (.int p.rows)) (some (.int p.cols))) = .nx (EN x a.Net p [("right", .lst .f (gridD .f p.right)), ("up", .lst .f (gridD .f p.up)), ("starts", .lst .f (p.starts.map D.int)), ("ends", .lst .f (p.ends.map D.int)), ("columns", .int p.cols)] (some (.int p.rows)) (some (.int p.cols))) := by
    have := fldN_ok (C := a.Net) (p := x) (d := .int p.cols) (fld := "columns") (fs := [("right", .lst .f (gridD .f p.right)), ("up", .lst .f (gridD .f p.up)), ("starts", .lst .f (p.starts.map D.int)), ("ends", .lst .f (p.ends.map D.int))]) (ρ := (EN x a.Net p [("right", .lst .f (gridD .f p.right)), ("up", .lst .f (gridD .f p.up)), ("starts", .lst .f (p.starts.map D.int)), ("ends", .lst .f (p.ends.map D.int))] (some (.int p.rows)) (some (.int p.cols)))) (fv := (fVar 6)) (by rfl) (by rw [frz_EN]; exact rfl) rfl (by show 4 < 1000; decide)
    rw [fz_int] at this
    exact this
  have t6 : gFldN a.Net "rows" (fVar 5) (EN x a.Net p [("right", .lst .f (gridD .f p.right)), ("up", .lst .f (gridD .f p.up)), ("starts", .lst .f (p.starts.map D.int)), ("ends", .lst .f (p.ends.map D.int)), ("columns", .int p.cols)] (some (.int p.rows)) (some (.int p.cols))) = .nx (EN x a.Net p [("right", .lst .f (gridD .f p.right)), ("up", .lst .f (gridD .f p.up)), ("starts", .lst .f (p.starts.map D.int)), ("ends", .lst .f (p.ends.map D.int)), ("columns", .int p.cols), ("rows", .int p.rows)] (some (.int p.rows)) (some (.int p.cols))) := by
    have := fldN_ok (C := a.Net) (p := x) (d := .int p.rows) (fld := "rows") (fs := [("right", .lst .f (gridD .f p.right)), ("up", .lst .f (gridD .f p.up)), ("starts", .lst .f (p.starts.map D.int)), ("ends", .lst .f (p.ends.map D.int)), ("columns", .int p.cols)]) (ρ := (EN x a.Net p [("right", .lst .f (gridD .f p.right)), ("up", .lst .f (gridD .f p.up)), ("starts", .lst .f (p.starts.map D.int)), ("ends", .lst .f (p.ends.map D.int)), ("columns", .int p.cols)] (some (.int p.rows)) (some (.int p.cols)))) (fv := (fVar 5)) (by rfl) (by rw [frz_EN]; exact rfl) rfl (by show 5 < 1000; decide)
    rw [fz_int] at this
    exact this
  have all : g_Net a (EN x a.Net p [] none none) = .nx (EN x a.Net p (flds p) (some (.int p.rows)) (some (.int p.cols))) := by
    unfold g_Net
    rw [seq_nx (s1 [] none none), seq_nx s2, seq_nx s3, seq_nx s4, seq_nx s5, seq_nx s6, seq_nx s7, seq_nx s8, seq_nx s9]
    show gSeq _ _ (EN x a.Net p [] (some (.int p.rows)) (some (.int p.cols))) = _
    rw [seq_nx t1, seq_nx t2, seq_nx t3, seq_nx t4, seq_nx t5]
    exact t6
  unfold I_Net initF
  rw [show (some (D.slf x a.Net []) :: (List.map some [D.lst .f (gridD .f p.right), D.lst .f (gridD .f p.up), D.lst .f (p.starts.map D.int), D.lst .f (p.ends.map D.int)] ++ List.replicate (7 - ([D.lst .f (gridD .f p.right), D.lst .f (gridD .f p.up), D.lst .f (p.starts.map D.int), D.lst .f (p.ends.map D.int)].length + 1)) none)) = (EN x a.Net p [] none none) from rfl, all]
  show (if x = x ∧ a.Net = a.Net then Res.ok (flds p) else .bad) = _
  rw [if_pos ⟨rfl, rfl⟩]
end Lw
namespace Lw
open Mi PySem
theorem drop_exc {f : FEnv → Res D} {ρ : FEnv} {C : Value} (h : f ρ = .exc C) : gDrop f ρ = .exc C := by unfold gDrop; rw [h]; rfl
structure Fit (p : Parts) : Prop where
  r8 : p.rows ≤ 8
  c8 : p.cols ≤ 8
  rr : ∀ r ∈ p.right, r.length + 1 = p.cols ∧ ∀ v ∈ r, 0 ≤ v ∧ v ≤ 1000
  ul : p.up.length + 1 = p.rows
  ur : ∀ r ∈ p.up, r.length = p.cols ∧ ∀ v ∈ r, 0 ≤ v ∧ v ≤ 1000
  st : Bord p.rows p.starts
  en : Bord p.rows p.ends
  se : p.starts.length = p.ends.length
theorem net_no (a : Ads) (x : Addr) (p : Parts) {r0 : List Int} {rest : List (List Int)} (hr0 : p.right = r0 :: rest) (hrl' : p.rows = p.right.length) (hc0' : p.cols = r0.length + 1) (bR : ∀ r ∈ p.right, r.length ≤ 1000) (bU : ∀ r ∈ p.up, r.length ≤ 1000) (bR2 : p.right.length ≤ 1000) (hF : ¬ Fit p) : I_Net a x (args p) = .exc (.ref a.BadNet) := by
  have hrl : (gridD .f p.right).length = p.rows := by simp [gridD, hrl']
  have hr1 : 1 ≤ p.rows := by rw [hrl', hr0]; simp
  have hc0 : r0.length + 1 = p.cols := hc0'.symm
  have l1 : ∀ fs r c, fCB cLen (faCons (fVar 1) faNil) (EN x a.Net p fs r c) = .ok (.int p.rows) := fun fs r c => by
    have := len_call (j := 1) (ρ := EN x a.Net p fs r c) rfl rfl
    rw [hrl] at this; exact this
  suffices all : g_Net a (EN x a.Net p [] none none) = .exc (.ref a.BadNet) by
    unfold I_Net initF
    rw [show (some (D.slf x a.Net []) :: (List.map some (args p) ++ List.replicate (7 - ((args p).length + 1)) none)) = (EN x a.Net p [] none none) from rfl, all]
  unfold g_Net
  by_cases f1 : p.rows ≤ 8
  case neg =>
    refine s_seqX (drop_exc (v_callX (ds := [.int p.rows]) (facons (l1 [] none none) rfl) rfl (by rw [fzs_cons, fzs_nil, fz_int]) (side_no a _ fun z => f1 (by lia))))
  have s1 : gDrop (fCallN 1 (F_check_side a) (faCons (fCB cLen (faCons (fVar 1) faNil)) faNil)) (EN x a.Net p [] none none) = .nx (EN x a.Net p [] none none) :=
    drop_ok (callN_atom (d := .non) (ds := [.int p.rows]) (facons (l1 _ _ _) rfl) rfl (by rw [fzs_cons, fzs_nil, fz_int]; exact check_side a _ (by lia) (by lia)) rfl)
  have s2 : gSet 5 (fFz (fCB cLen (faCons (fVar 1) faNil))) (EN x a.Net p [] none none) = .nx (EN x a.Net p [] (some (.int p.rows)) none) := by
    have := setz (i := 5) (l1 [] none none) (ntb rfl) (by show 5 < 7; decide)
    rw [fz_int] at this
    exact this
  have s3 : gSet 6 (fFz (f2 dCat (fCB cLen (faCons (f2 dIx (fVar 1) (fC (.int 0))) faNil)) (fC (.int 1)))) (EN x a.Net p [] (some (.int p.rows)) none) = .nx (EN x a.Net p [] (some (.int p.rows)) (some (.int p.cols))) := by
    have ix : f2 dIx (fVar 1) (fC (.int 0)) (EN x a.Net p [] (some (.int p.rows)) none) = .ok (.lst .f (r0.map D.int)) := by
      refine (f2of (g := dIx) (x := .lst .f (gridD .f p.right)) (y := .int 0) rfl rfl).trans ?_
      rw [hr0]
      exact ix_lst (k := 0) rfl rfl
    have ln : fCB cLen (faCons (f2 dIx (fVar 1) (fC (.int 0))) faNil) (EN x a.Net p [] (some (.int p.rows)) none) = .ok (.int r0.length) := by
      unfold fCB
      rw [facons ix rfl, bok]
      show Res.ok (D.int ((r0.map D.int).length : Nat)) = _
      rw [List.length_map]
    have := setz (i := 6) ((f2of (g := dCat) (f2' := fC (.int 1)) (y := .int 1) ln rfl).trans (o_cat _ _)) (ntb rfl) (by show 6 < 7; decide)
    rw [fz_int, show ((r0.length : Int) + 1) = (p.cols : Int) by lia] at this
    exact this
  rw [seq_nx s1, seq_nx s2, seq_nx s3]
  by_cases f2 : p.cols ≤ 8
  case neg =>
    refine s_seqX (drop_exc (v_callX (ds := [.int p.cols]) rfl rfl (by rw [fzs_cons, fzs_nil, fz_int]) (side_no a _ fun z => f2 (by lia))))
  have s4 : gDrop (fCallN 1 (F_check_side a) (faCons (fVar 6) faNil)) (EN x a.Net p [] (some (.int p.rows)) (some (.int p.cols))) = .nx (EN x a.Net p [] (some (.int p.rows)) (some (.int p.cols))) :=
    drop_ok (callN_atom (d := .non) (ds := [.int p.cols]) rfl rfl (by rw [fzs_cons, fzs_nil, fz_int]; exact check_side a _ (by lia) (by lia)) rfl)
  rw [seq_nx s4]
  have z5 : D.fzs [.lst .f (gridD .f p.right), .int p.rows, .int ((p.cols : Int) - 1)] = [.lst .f (gridD .f p.right), .int (p.right.length : Nat), .int ((p.cols - 1 : Nat) : Int)] := by
    rw [fzs_cons, fzs_cons, fzs_cons, fzs_nil, fz_lst, fzs_grid, fz_int, fz_int, hrl', show (p.cols : Int) - 1 = ((p.cols - 1 : Nat) : Int) by lia]
  by_cases f3 : ∀ r ∈ p.right, r.length + 1 = p.cols ∧ ∀ v ∈ r, 0 ≤ v ∧ v ≤ 1000
  case neg =>
    refine s_seqX (drop_exc (v_callX (ds := [.lst .f (gridD .f p.right), .int p.rows, .int ((p.cols : Int) - 1)]) rfl rfl z5 (steps_no a _ _ _ bR fun z => f3 fun r hr => ?_)))
    have := z.2 r hr
    exact ⟨by lia, this.2⟩
  have s5 : gDrop (fCallN 3 (F_check_steps a) (faCons (fVar 1) (faCons (fVar 5) (faCons (Mi.f2 dSub (fVar 6) (fC (.int 1))) faNil)))) (EN x a.Net p [] (some (.int p.rows)) (some (.int p.cols))) = .nx (EN x a.Net p [] (some (.int p.rows)) (some (.int p.cols))) := by
    refine drop_ok (callN_atom (d := .non) (ds := [.lst .f (gridD .f p.right), .int p.rows, .int ((p.cols : Int) - 1)]) rfl rfl ?_ rfl)
    rw [z5]
    exact check_steps a p.right _ (by lia) fun r hr => ⟨by have := (f3 r hr).1; lia, (f3 r hr).2⟩
  rw [seq_nx s5]
  have z6 : D.fzs [.lst .f (gridD .f p.up), .int ((p.rows : Int) - 1), .int p.cols] = [.lst .f (gridD .f p.up), .int ((p.rows : Int) - 1), .int p.cols] := by
    rw [fzs_cons, fzs_cons, fzs_cons, fzs_nil, fz_lst, fzs_grid, fz_int, fz_int]
  by_cases f4 : p.up.length + 1 = p.rows ∧ ∀ r ∈ p.up, r.length = p.cols ∧ ∀ v ∈ r, 0 ≤ v ∧ v ≤ 1000
  case neg =>
    refine s_seqX (drop_exc (v_callX (ds := [.lst .f (gridD .f p.up), .int ((p.rows : Int) - 1), .int p.cols]) rfl rfl z6 (steps_no a _ _ _ bU fun z => f4 ⟨?_, fun r hr => ?_⟩)))
    · have := z.1; lia
    · have := z.2 r hr
      exact ⟨by lia, this.2⟩
  have s6 : gDrop (fCallN 3 (F_check_steps a) (faCons (fVar 2) (faCons (Mi.f2 dSub (fVar 5) (fC (.int 1))) (faCons (fVar 6) faNil)))) (EN x a.Net p [] (some (.int p.rows)) (some (.int p.cols))) = .nx (EN x a.Net p [] (some (.int p.rows)) (some (.int p.cols))) := by
    refine drop_ok (callN_atom (d := .non) (ds := [.lst .f (gridD .f p.up), .int ((p.rows : Int) - 1), .int p.cols]) rfl rfl ?_ rfl)
    rw [z6, show (p.rows : Int) - 1 = ((p.up.length : Nat) : Int) by have := f4.1; lia]
    exact check_steps a p.up _ (by lia) fun r hr => f4.2 r hr
  rw [seq_nx s6]
  have z7 : ∀ L : List Int, D.fzs [.lst .f (L.map D.int), .int p.rows] = [.lst .f (L.map D.int), .int p.rows] := fun L => by
    rw [fzs_cons, fzs_cons, fzs_nil, fz_lst, fzs_ints, fz_int]
  have bo : ∀ L : List Int, Bord p.rows L → F_check_border a [.lst .f (L.map D.int), .int p.rows] = .ok .non := fun L b =>
    check_border a L _ L.length b.1.1 b.1.2 ⟨rfl, (rising_of _ L _ b.2).1, fun y hy => by have := (rising_of _ L _ b.2).2 y hy; lia⟩
  by_cases f5 : Bord p.rows p.starts
  case neg => exact s_seqX (drop_exc (v_callX (ds := [.lst .f (p.starts.map D.int), .int p.rows]) rfl rfl (z7 _) (border_no a _ _ f5)))
  have s7 : gDrop (fCallN 2 (F_check_border a) (faCons (fVar 3) (faCons (fVar 5) faNil))) (EN x a.Net p [] (some (.int p.rows)) (some (.int p.cols))) = .nx (EN x a.Net p [] (some (.int p.rows)) (some (.int p.cols))) :=
    drop_ok (callN_atom (d := .non) (ds := [.lst .f (p.starts.map D.int), .int p.rows]) rfl rfl (by rw [z7]; exact bo _ f5) rfl)
  rw [seq_nx s7]
  by_cases f6 : Bord p.rows p.ends
  case neg => exact s_seqX (drop_exc (v_callX (ds := [.lst .f (p.ends.map D.int), .int p.rows]) rfl rfl (z7 _) (border_no a _ _ f6)))
  have s8 : gDrop (fCallN 2 (F_check_border a) (faCons (fVar 4) (faCons (fVar 5) faNil))) (EN x a.Net p [] (some (.int p.rows)) (some (.int p.cols))) = .nx (EN x a.Net p [] (some (.int p.rows)) (some (.int p.cols))) :=
    drop_ok (callN_atom (d := .non) (ds := [.lst .f (p.ends.map D.int), .int p.rows]) rfl rfl (by rw [z7]; exact bo _ f6) rfl)
  rw [seq_nx s8]
  refine s_seqX ?_
  have e3 := len_call (j := 3) (ρ := (EN x a.Net p [] (some (.int p.rows)) (some (.int p.cols)))) rfl rfl
  have e4 := len_call (j := 4) (ρ := (EN x a.Net p [] (some (.int p.rows)) (some (.int p.cols)))) rfl rfl
  rw [List.length_map] at e3 e4
  refine s_ift (t_2 (b := !decide ((p.starts.length : Int) = (p.ends.length : Int))) e3 e4 (o_nei _ _)) ?_ rfl
  simp only [Bool.not_eq_true', decide_eq_false_iff_not]
  exact fun z => hF ⟨f1, f2, f3, f4.1, f4.2, f5, f6, by lia⟩
end Lw
namespace Lw
open Mi PySem L2
theorem its_f (xs : List D) : D.its (.lst .f xs) = some (xs.map D.asF) := rfl
theorem its_o (xs : List D) : D.its (.lst .o xs) = some (D.fzs xs) := rfl
theorem fzs_l : ∀ xs : List D, (D.fzs xs).length = xs.length
  | [] => rfl
  | x :: xs => by rw [fzs_cons, List.length_cons, List.length_cons, fzs_l xs]
theorem skip {t : FEnv → Res Bool} {g : FEnv → FOut} {ρ : FEnv} (h : t ρ = .ok false) : gIf t g gSkip ρ = .nx ρ := by rw [s_if h, if_neg (by decide)]; rfl
theorem cat_ff {xs ys : List D} (h : xs.length + ys.length ≤ 1000) : dCat (.lst .f xs) (.lst .o ys) = .ok (.lst .o (xs.map D.asF ++ D.fzs ys)) := by
  show (match D.its (.lst .f xs), D.its (.lst .o ys) with
    | some xs', some ys' => if xs'.length + ys'.length ≤ sizeLine then Res.ok (D.lst .o (xs' ++ ys')) else Res.bad
    | _, _ => Res.bad) = _
  rw [its_f, its_o]
  show (if (xs.map D.asF).length + (D.fzs ys).length ≤ sizeLine then _ else _) = _
  rw [if_pos (by rw [List.length_map, fzs_l]; exact small_size h)]
theorem cat_oo {xs ys : List D} (h : xs.length + ys.length ≤ 1000) : dCat (.lst .o xs) (.lst .o ys) = .ok (.lst .o (D.fzs xs ++ D.fzs ys)) := by
  show (match D.its (.lst .o xs), D.its (.lst .o ys) with
    | some xs', some ys' => if xs'.length + ys'.length ≤ sizeLine then Res.ok (D.lst .o (xs' ++ ys')) else Res.bad
    | _, _ => Res.bad) = _
  rw [its_o, its_o]
  show (if (D.fzs xs).length + (D.fzs ys).length ≤ sizeLine then _ else _) = _
  rw [if_pos (by rw [fzs_l, fzs_l]; exact small_size h)]
theorem v_sl {f : FEnv → Res D} {fl fh : FEnv → Res (Option Int)} {ρ : FEnv} {xs ys : List D} {l h : Option Int} (h1 : f ρ = .ok (.lst .f xs)) (h2 : fl ρ = .ok l) (h3 : fh ρ = .ok h) (h4 : cutD (xs.map D.asF) l h = ys) : fSl f fl fh ρ = .ok (.lst .o ys) := by
  unfold fSl
  rw [h1, bok, h2, bok, h3, bok]
  show Res.ok (D.lst .o (cutD (xs.map D.asF) l h)) = _
  rw [h4]
theorem v_foS {f : FEnv → Res D} {ρ : FEnv} {i : Int} (h : f ρ = .ok (.int i)) : foS f ρ = .ok (some i) := by unfold foS; rw [h, bok]
theorem cut_take (xs : List D) (k : Nat) (h : k ≤ xs.length) : cutD xs none (some (k : Int)) = xs.take k := by
  unfold cutD
  show (xs.drop 0).take (HT.sIx xs.length xs.length (some (k : Int)) - 0) = _
  have : HT.sIx xs.length xs.length (some (k : Int)) = k := by
    unfold HT.sIx
    simp only
    rw [if_neg (by lia)]
    simp [h]
  rw [this]
  simp
theorem cut_drop (xs : List D) (k : Nat) (h : k ≤ xs.length) : cutD xs (some (k : Int)) none = xs.drop k := by
  unfold cutD
  have e1 : HT.sIx xs.length 0 (some (k : Int)) = k := by
    unfold HT.sIx
    simp only
    rw [if_neg (by lia)]
    simp [h]
  have e2 : HT.sIx xs.length xs.length none = xs.length := rfl
  rw [e1, e2]
  rw [List.take_of_length_le (by simp)]
theorem cut_last (xs : List D) (h : xs ≠ []) : cutD xs none (some (-1)) = xs.dropLast := by
  unfold cutD
  have : HT.sIx xs.length xs.length (some (-1)) = xs.length - 1 := by
    unfold HT.sIx
    simp only
    rw [if_pos (by decide)]
    have : 0 < xs.length := List.length_pos_iff.mpr h
    lia
  rw [this]
  show (xs.drop 0).take (xs.length - 1 - 0) = _
  rw [List.dropLast_eq_take]
  simp
def hurtL (M : List Int) (z rows c : Int) : List Int := if c % 5 = 0 then [] else if c % 5 = 1 then M ++ [z, z] else if c % 5 = 2 then M ++ [rows + c / 5 % 3] else if c % 5 = 3 then -1 :: (M ++ [z]).tail else [0, 1, 2, 3, 4]
theorem hurt_list (a : Ads) (M : List Int) (z rows c : Int) (hl : M.length ≤ 100) : F__law_hurt_list a [.lst .f ((M ++ [z]).map D.int), .int rows, .int c] = .ok (.lst .o ((hurtL M z rows c).map D.int)) := by
  refine b_rt rfl ?_
  show g__law_hurt_list a [some (.lst .f ((M ++ [z]).map D.int)), some (.int rows), some (.int c)] = _
  unfold g__law_hurt_list hurtL
  generalize hρ : ([some (.lst .f ((M ++ [z]).map D.int)), some (.int rows), some (.int c)] : FEnv) = ρ
  have e0 : fVar 0 ρ = .ok (.lst .f ((M ++ [z]).map D.int)) := by rw [← hρ]; rfl
  have e1 : fVar 1 ρ = .ok (.int rows) := by rw [← hρ]; rfl
  have e2 : fVar 2 ρ = .ok (.int c) := by rw [← hρ]; rfl
  have md : f2 dMod (fVar 2) (fC (.int 5)) ρ = .ok (.int (c % 5)) := v_f2 e2 v_C (o_mod _ _ (by decide))
  have tt : ∀ k : Int, ft2 dEq (f2 dMod (fVar 2) (fC (.int 5))) (fC (.int k)) ρ = .ok (decide (c % 5 = k)) := fun k => t_2 md v_C (o_eqi _ _)
  have len : ((M ++ [z]).map D.int).length ≤ 101 := by simp; lia
  by_cases h0 : c % 5 = 0
  · rw [if_pos h0]
    exact s_seqR (s_ift (tt 0) (decide_eq_true h0) (s_ret (v_lst v_nil rfl (by decide)) (ntb rfl)))
  rw [if_neg h0, seq_nx (skip ((tt 0).trans (by rw [decide_eq_false h0])))]
  by_cases h1 : c % 5 = 1
  · rw [if_pos h1]
    refine s_seqR (s_ift (tt 1) (decide_eq_true h1) (s_ret (d := .lst .o ((M ++ [z, z]).map D.int)) (v_f2 e0 (v_lst (facons (v_f2 (z := .int z) e0 (v_f1 v_C (o_neg 1)) ?_) v_nil) rfl (by simp)) ?_) (ntb rfl)))
    · show (match L2.ixN ((M ++ [z]).map D.int).length (-1) with
        | some j => ofOpt (D.el (.lst .f ((M ++ [z]).map D.int)) j)
        | none => Res.bad) = _
      have : L2.ixN ((M ++ [z]).map D.int).length (-1) = some M.length := by
        unfold L2.ixN
        rw [if_neg (by decide), if_pos (by simp; lia)]
        simp
        lia
      rw [this]
      show ofOpt ((((M ++ [z]).map D.int)[M.length]?).map D.asF) = _
      simp [ofOpt, D.asF]
    · refine (cat_ff (by simp at len ⊢; lia)).trans ?_
      rw [map_asF_ints, show D.fzs [D.int z] = [D.int z] from rfl]
      simp
  rw [if_neg h1, seq_nx (skip ((tt 1).trans (by rw [decide_eq_false h1])))]
  by_cases h2 : c % 5 = 2
  · rw [if_pos h2]
    refine s_seqR (s_ift (tt 2) (decide_eq_true h2) (s_ret (d := .lst .o ((M ++ [rows + c / 5 % 3]).map D.int)) (v_f2 (v_sl (ys := M.map D.int) e0 rfl (v_foS (v_f1 v_C (o_neg 1))) ?_) (v_lst (facons (v_f2 e1 (v_f2 (v_f2 e2 v_C (o_fdiv _ _ (by decide))) v_C (o_mod _ _ (by decide))) (o_cat _ _)) v_nil) rfl (by simp)) ?_) (ntb rfl)))
    · rw [map_asF_ints, cut_last _ (by simp)]
      simp
    · refine (cat_oo (by simp at len ⊢; lia)).trans ?_
      rw [fzs_ints, show ∀ w : Int, D.fzs [D.int w] = [D.int w] from fun _ => rfl]
      simp
  rw [if_neg h2, seq_nx (skip ((tt 2).trans (by rw [decide_eq_false h2])))]
  by_cases h3 : c % 5 = 3
  · rw [if_pos h3]
    refine s_seqR (s_ift (tt 3) (decide_eq_true h3) (s_ret (d := .lst .o ((-1 :: (M ++ [z]).tail).map D.int)) (v_f2 (v_lst (facons (v_f1 v_C (o_neg 1)) v_nil) rfl (by simp)) (v_sl (ys := (M ++ [z]).tail.map D.int) e0 (v_foS v_C) rfl ?_) ?_) (ntb rfl)))
    · rw [map_asF_ints, show (1 : Int) = ((1 : Nat) : Int) from rfl, cut_drop _ _ (by simp), List.drop_one, List.map_tail]
    · refine (cat_oo (by simp at len ⊢; lia)).trans ?_
      rw [fzs_ints, show ∀ w : Int, D.fzs [D.int w] = [D.int w] from fun _ => rfl]
      simp
  rw [if_neg h3, seq_nx (skip ((tt 3).trans (by rw [decide_eq_false h3])))]
  exact s_ret (v_lst (facons v_C (facons v_C (facons v_C (facons v_C (facons v_C v_nil))))) rfl (by simp)) (ntb rfl)
end Lw
namespace Lw
open Mi PySem
theorem ixN_nat {n k : Nat} (h : k < n) : L2.ixN n (k : Int) = some k := by
  unfold L2.ixN
  rw [if_pos (by lia), if_pos (by lia)]
  simp
theorem grid_len (t : Tg) (g : List (List Int)) : (gridD t g).length = g.length := by simp [gridD]
theorem grid_get {t : Tg} {g : List (List Int)} {k : Nat} {r : List Int} (h : g[k]? = some r) : (gridD t g)[k]? = some (.lst t (r.map D.int)) := by
  unfold gridD
  rw [List.getElem?_map, h]
  rfl
theorem grid_set (t : Tg) (g : List (List Int)) (k : Nat) (r : List Int) : (gridD t g).set k (.lst t (r.map D.int)) = gridD t (g.set k r) := by
  unfold gridD
  rw [List.map_set]
theorem grid_app (t : Tg) (g h : List (List Int)) : gridD t g ++ gridD t h = gridD t (g ++ h) := by
  unfold gridD
  rw [List.map_append]
theorem set_split {α : Type} (g : List α) (k : Nat) (x : α) (h : k < g.length) : g.take k ++ [x] ++ g.drop (k + 1) = g.set k x := by
  rw [List.set_eq_take_append_cons_drop, if_pos h]
  simp
def Hurt (g g' : List (List Int)) : Prop := g' = g ++ [[1, 2, 3, 4, 5, 6, 7, 8, 9]] ∨ ∃ k r, g[k]? = some r ∧ ((1 < g.length ∧ r ≠ [] ∧ g' = g.set k r.dropLast) ∨ (g' = g.set k (r ++ List.replicate (if g.length = 1 then 9 else 1) 1)) ∨ (∃ j v, j < r.length ∧ (v = -1 ∨ v = 1001) ∧ g' = g.set k (r.set j v)))
theorem rep1 (x : D) : ∀ m : Nat, (List.replicate m [x]).flatten = List.replicate m x
  | 0 => rfl
  | m + 1 => by rw [List.replicate_succ, List.flatten_cons, rep1 x m, List.replicate_succ]; rfl
theorem hurt_rows (a : Ads) (g : List (List Int)) (c : Int) (hg : g.length ≤ 100) (hr : ∀ r ∈ g, r.length ≤ 100) : ∃ t g', (t = .f ∨ t = .o) ∧ F__law_hurt_rows a [.lst .f (gridD .f g), .int c] = .ok (.lst .o (gridD t g')) ∧ Hurt g g' := by
  obtain ⟨M, hM, hM0, hM1⟩ : ∃ M : Int, (if (g.length : Int) > 1 then (g.length : Int) else 1) = M ∧ 0 < M ∧ (0 < g.length → M = g.length) := by
    refine ⟨_, rfl, ?_, ?_⟩ <;> split <;> lia
  have a0 := Int.emod_nonneg (c / 8) (b := M) (by lia)
  have a1 := Int.emod_lt_of_pos (c / 8) hM0
  obtain ⟨k, hk⟩ : ∃ k : Nat, c / 8 % M = (k : Int) := ⟨(c / 8 % M).toNat, by lia⟩
  have s1 : gSet 2 (fCompX 1 [] (fiAny (fVar 0)) (tgName 0) ftTrue (fCB cList (faCons (fVar 0) faNil))) [some (.lst .f (gridD .f g)), some (.int c), none, none] = .nx [some (.lst .f (gridD .f g)), some (.int c), some (.lst .o (gridD .o g)), none] :=
    s_set (copy_grid (j := 0) rfl (by lia)) (ntb rfl) (by show 2 < 4; decide) rfl
  have s2 : gSet 3 (fFz (f2 dMod (f2 dFdiv (fVar 1) (fC (.int 8))) (fCB cMax2 (faCons (fC (.int 1)) (faCons (fCB cLen (faCons (fVar 2) faNil)) faNil))))) [some (.lst .f (gridD .f g)), some (.int c), some (.lst .o (gridD .o g)), none] = .nx [some (.lst .f (gridD .f g)), some (.int c), some (.lst .o (gridD .o g)), some (.int k)] := by
    refine s_set (d := .int k) (v_fz (d := .int (c / 8 % M)) (v_f2 (y := .int M) (v_f2 (x := .int c) rfl v_C (o_fdiv _ _ (by decide))) (v_CB (x := [.int 1, .int g.length]) (facons v_C (facons (v_CB (x := [.lst .b (gridD .o g)]) rfl ?_) v_nil)) ?_) (o_mod _ _ hM0)) (ntb rfl) (by rw [hk]; rfl)) (ntb rfl) (by show 3 < 4; decide) rfl
    · rw [o_lenL, grid_len]
    · show Res.ok (D.int (if (g.length : Int) > 1 then (g.length : Int) else 1)) = _
      rw [hM]
  obtain ⟨ρ, hρ⟩ : ∃ ρ : FEnv, ρ = [some (.lst .f (gridD .f g)), some (.int c), some (.lst .o (gridD .o g)), some (.int k)] := ⟨_, rfl⟩
  have fr : frzAt 2 ρ = [some (.lst .f (gridD .f g)), some (.int c), some (.lst .f (gridD .f g)), some (.int k)] := by
    rw [hρ]
    show [some (.lst .f (gridD .f g)), some (.int c), some (D.fz (.lst .o (gridD .o g))), some (.int k)] = _
    rw [fz_grid']
  have fa : frzAll ρ = [some (.lst .f (gridD .f g)), some (.int c), some (.lst .f (gridD .f g)), some (.int k)] := by
    rw [hρ]
    show [some (D.fz (.lst .f (gridD .f g))), some (D.fz (.int c)), some (D.fz (.lst .o (gridD .o g))), some (D.fz (.int k))] = _
    rw [fz_grid', fz_grid', fz_int, fz_int]
  have body : ∀ {d : D}, (∀ gg, gg = g__law_hurt_rows a → gg [some (.lst .f (gridD .f g)), some (.int c), none, none] = .rt d) → F__law_hurt_rows a [.lst .f (gridD .f g), .int c] = .ok d := fun h => b_rt rfl (h _ rfl)
  have e1 : fVar 1 ρ = .ok (.int c) := by rw [hρ]; rfl
  have md : f2 dMod (fVar 1) (fC (.int 4)) ρ = .ok (.int (c % 4)) := v_f2 e1 v_C (o_mod _ _ (by decide))
  have ln : fCB cLen (faCons (fVar 2) faNil) ρ = .ok (.int g.length) := by
    rw [hρ]
    refine v_CB (x := [.lst .b (gridD .o g)]) rfl ?_
    rw [o_lenL, grid_len]
  have t1 : ftOr (ft2 dEq (f2 dMod (fVar 1) (fC (.int 4))) (fC (.int 0))) (ft2 dEq (fCB cLen (faCons (fVar 2) faNil)) (fC (.int 0))) ρ = .ok (decide (c % 4 = 0) || decide ((g.length : Int) = 0)) := t_or (t_2 md v_C (o_eqi _ _)) (t_2 ln v_C (o_eqi _ _))
  by_cases c1 : (decide (c % 4 = 0) || decide ((g.length : Int) = 0)) = true
  · refine ⟨.f, g ++ [[1, 2, 3, 4, 5, 6, 7, 8, 9]], .inl rfl, body fun gg hgg => ?_, .inl rfl⟩
    rw [hgg]
    unfold g__law_hurt_rows
    rw [seq_nx s1, seq_nx s2, ← hρ]
    refine s_seqR (s_ift t1 c1 ?_)
    show gRet _ (frzAt 2 ρ) = _
    rw [fr]
    refine s_ret (v_f2 (x := .lst .f (gridD .f g)) (y := .lst .o [.lst .o (([1, 2, 3, 4, 5, 6, 7, 8, 9] : List Int).map D.int)]) rfl rfl ?_) (ntb rfl)
    refine (cat_ff (by rw [grid_len]; simp; lia)).trans ?_
    rw [map_asF_grid, ← grid_app]
    rfl
  have c1 : (decide (c % 4 = 0) || decide ((g.length : Int) = 0)) = false := by simpa using c1
  have gpos : 0 < g.length := by
    simp only [Bool.or_eq_false_iff, decide_eq_false_iff_not] at c1
    lia
  have hkl : k < g.length := by have := hM1 gpos; lia
  obtain ⟨r, hgr⟩ : ∃ r, g[k]? = some r := ⟨g[k], by simp [hkl]⟩
  have hrm : r ∈ g := List.mem_of_getElem? hgr
  have hrl := hr r hrm
  have ix : f2 dIx (fVar 2) (fVar 3) ρ = .ok (.lst .b (r.map D.int)) := by
    rw [hρ]
    exact v_f2 (x := .lst .b (gridD .o g)) (y := .int k) rfl rfl (ix_lsb (grid_get hgr) rfl)
  have lr : fCB cLen (faCons (f2 dIx (fVar 2) (fVar 3)) faNil) ρ = .ok (.int r.length) := v_CB (facons ix v_nil) (by rw [o_lenL, List.length_map])
  have t2 : ftAnd (ft2 dEq (f2 dMod (fVar 1) (fC (.int 4))) (fC (.int 1))) (ftAnd (ft2 dGt (fCB cLen (faCons (fVar 2) faNil)) (fC (.int 1))) (ft2 dGt (fCB cLen (faCons (f2 dIx (fVar 2) (fVar 3)) faNil)) (fC (.int 0)))) ρ = .ok (decide (c % 4 = 1) && (decide ((1 : Int) < g.length) && decide ((0 : Int) < r.length))) := t_and (t_2 md v_C (o_eqi _ _)) (t_and (t_2 ln v_C (o_gt _ _)) (t_2 lr v_C (o_gt _ _)))
  have inat : ∀ kk, inAt ρ 2 3 kk = kk (gridD .o g) k (r.map D.int) := fun kk => by
    unfold inAt
    rw [hρ]
    show (match L2.ixN (gridD .o g).length (k : Int) with
      | some n => match (gridD .o g)[n]? with
        | some (.lst .o ys) => kk (gridD .o g) n ys
        | _ => FOut.bad
      | none => FOut.bad) = _
    rw [ixN_nat (by rw [grid_len]; exact hkl)]
    show (match (gridD .o g)[k]? with
        | some (.lst .o ys) => kk (gridD .o g) k ys
        | _ => FOut.bad) = _
    rw [grid_get hgr]
  by_cases c2 : (decide (c % 4 = 1) && (decide ((1 : Int) < g.length) && decide ((0 : Int) < r.length))) = true
  · have h2 := c2
    simp only [Bool.and_eq_true, decide_eq_true_eq] at h2
    refine ⟨.o, g.set k r.dropLast, .inr rfl, body fun gg hgg => ?_, .inr ⟨k, r, hgr, .inl ⟨by lia, fun z => by rw [z] at h2; simp at h2, rfl⟩⟩⟩
    rw [hgg]
    unfold g__law_hurt_rows
    rw [seq_nx s1, seq_nx s2, ← hρ, seq_nx (skip (t1.trans (by rw [c1])))]
    refine s_seqR (s_ift t2 c2 ?_)
    refine s_seq (ρ' := ρ.set 2 (some (.lst .o ((gridD .o g).set k (.lst .o (r.map D.int).dropLast))))) ?_ ?_
    · unfold gPop2
      rw [inat, if_neg (by rw [List.length_map]; lia)]
    · rw [← List.map_dropLast, grid_set, hρ]
      rfl
  have c2 : (decide (c % 4 = 1) && (decide ((1 : Int) < g.length) && decide ((0 : Int) < r.length))) = false := by simpa using c2
  have t3 : ftOr (ft2 dLt (f2 dMod (fVar 1) (fC (.int 4))) (fC (.int 3))) (ft2 dEq (fCB cLen (faCons (f2 dIx (fVar 2) (fVar 3)) faNil)) (fC (.int 0))) ρ = .ok (decide (c % 4 < 3) || decide ((r.length : Int) = 0)) := t_or (t_2 md v_C (o_lt _ _)) (t_2 lr v_C (o_eqi _ _))
  by_cases c3 : (decide (c % 4 < 3) || decide ((r.length : Int) = 0)) = true
  · refine ⟨.f, g.set k (r ++ List.replicate (if g.length = 1 then 9 else 1) 1), .inl rfl, body fun gg hgg => ?_, .inr ⟨k, r, hgr, .inr (.inl rfl)⟩⟩
    rw [hgg]
    unfold g__law_hurt_rows
    rw [seq_nx s1, seq_nx s2, ← hρ, seq_nx (skip (t1.trans (by rw [c1]))), seq_nx (skip (t2.trans (by rw [c2])))]
    refine s_seqR (s_ift t3 c3 ?_)
    show gRet _ (frzAt 2 ρ) = _
    rw [fr]
    obtain ⟨m, hm⟩ : ∃ m : Nat, (if g.length = 1 then 9 else 1) = m := ⟨_, rfl⟩
    have hm9 : m ≤ 9 := by rw [← hm]; split <;> lia
    rw [hm]
    obtain ⟨ρ2, hρ2⟩ : ∃ ρ2 : FEnv, ρ2 = [some (.lst .f (gridD .f g)), some (.int c), some (.lst .f (gridD .f g)), some (.int k)] := ⟨_, rfl⟩
    rw [← hρ2]
    have v2 : fVar 2 ρ2 = .ok (.lst .f (gridD .f g)) := by rw [hρ2]; rfl
    have v3 : fVar 3 ρ2 = .ok (.int k) := by rw [hρ2]; rfl
    have p1 : fSl (fVar 2) foN (foS (fVar 3)) ρ2 = .ok (.lst .o (gridD .f (g.take k))) := v_sl v2 rfl (v_foS v3) (by
      rw [map_asF_grid, cut_take _ _ (by rw [grid_len]; lia)]
      unfold gridD
      rw [List.map_take])
    have p2 : fSl (fVar 2) (foS (f2 dCat (fVar 3) (fC (.int 1)))) foN ρ2 = .ok (.lst .o (gridD .f (g.drop (k + 1)))) := v_sl v2 (v_foS (v_f2 v3 v_C (o_cat _ _))) rfl (by
      rw [map_asF_grid, show (k : Int) + 1 = ((k + 1 : Nat) : Int) by lia, cut_drop _ _ (by rw [grid_len]; lia)]
      unfold gridD
      rw [List.map_drop])
    have p3 : f2 dIx (fVar 2) (fVar 3) ρ2 = .ok (.lst .f (r.map D.int)) := v_f2 v2 v3 (ix_lst (grid_get hgr) rfl)
    have p4 : f2 dIx (fLst (faCons (fC (.int 1)) (faCons (fC (.int 9)) faNil))) (fCB cInt (faCons (f2 dEq (fCB cLen (faCons (fVar 2) faNil)) (fC (.int 1))) faNil)) ρ2 = .ok (.int m) := by
      have q1 : fCB cLen (faCons (fVar 2) faNil) ρ2 = .ok (.int g.length) := v_CB (facons v2 v_nil) (by rw [o_lenL, grid_len])
      by_cases hg1 : g.length = 1
      · rw [if_pos hg1] at hm
        refine v_f2 (x := .lst .o [.int 1, .int 9]) (y := .int (1 : Nat)) rfl (v_CB (facons (v_f2 q1 v_C (o_eqi _ _)) v_nil) ?_) (ix_lso (k := 1) (by rw [← hm]; rfl))
        rw [decide_eq_true (by lia)]
        rfl
      · rw [if_neg hg1] at hm
        refine v_f2 (x := .lst .o [.int 1, .int 9]) (y := .int (0 : Nat)) rfl (v_CB (facons (v_f2 q1 v_C (o_eqi _ _)) v_nil) ?_) (ix_lso (k := 0) (by rw [← hm]; rfl))
        rw [decide_eq_false (by lia)]
        rfl
    have p5 : f2 dRep (fLst (faCons (fC (.int 1)) faNil)) (f2 dIx (fLst (faCons (fC (.int 1)) (faCons (fC (.int 9)) faNil))) (fCB cInt (faCons (f2 dEq (fCB cLen (faCons (fVar 2) faNil)) (fC (.int 1))) faNil))) ρ2 = .ok (.lst .o ((List.replicate m (1 : Int)).map D.int)) := by
      refine v_f2 (x := .lst .o [.int 1]) rfl p4 ?_
      unfold dRep
      simp only [its_o]
      rw [if_pos ⟨by lia, by lia, by rw [fzs_l, List.length_singleton, Int.toNat_natCast, Nat.one_mul]; exact Nat.le_trans hm9 (by decide)⟩, Int.toNat_natCast, fzs_cons, fzs_nil, fz_int, rep1, List.map_replicate]
    have p6 := v_f2 p3 p5 ((cat_ff (by simp; lia)).trans (by rw [map_asF_ints, fzs_ints, ← List.map_append]))
    have p7 := v_f2 p1 (v_lst (facons p6 v_nil) rfl (by simp)) (cat_oo (by rw [grid_len]; simp; lia))
    refine s_ret (v_f2 p7 p2 ?_) (ntb rfl)
    refine (cat_oo ?_).trans ?_
    · rw [List.length_append, fzs_l, fzs_l, grid_len, grid_len]; simp; lia
    · rw [fzs_grid, fzs_cons, fzs_nil, fz_ints]
      have : gridD .f (g.take k) ++ [D.lst .f ((r ++ List.replicate m 1).map D.int)] = gridD .f (g.take k ++ [r ++ List.replicate m 1]) := (grid_app .f (g.take k) [r ++ List.replicate m 1])
      rw [this, fzs_grid, fzs_grid, grid_app, set_split _ _ _ hkl]
  have c3 : (decide (c % 4 < 3) || decide ((r.length : Int) = 0)) = false := by simpa using c3
  have h3 := c3
  simp only [Bool.or_eq_false_iff, decide_eq_false_iff_not] at h3
  have rpos : (0 : Int) < r.length := by lia
  have b0 := Int.emod_nonneg (c / 64) (b := (r.length : Int)) (by lia)
  have b1 := Int.emod_lt_of_pos (c / 64) rpos
  obtain ⟨j, hj⟩ : ∃ j : Nat, c / 64 % (r.length : Int) = (j : Int) := ⟨(c / 64 % (r.length : Int)).toNat, by lia⟩
  have hjl : j < r.length := by lia
  obtain ⟨v, hv, hvv⟩ : ∃ v : Int, f2 dIx (fLst (faCons (f1 dNeg (fC (.int 1))) (faCons (fC (.int 1001)) faNil))) (f2 dMod (f2 dFdiv (fVar 1) (fC (.int 600))) (fC (.int 2))) ρ = .ok (.int v) ∧ (v = -1 ∨ v = 1001) := by
    have q : f2 dMod (f2 dFdiv (fVar 1) (fC (.int 600))) (fC (.int 2)) ρ = .ok (.int (c / 600 % 2)) := v_f2 (v_f2 e1 v_C (o_fdiv _ _ (by decide))) v_C (o_mod _ _ (by decide))
    by_cases hh : c / 600 % 2 = 0
    · rw [hh] at q
      exact ⟨-1, v_f2 (x := .lst .o [.int (-1), .int 1001]) rfl q (ix_lso (k := 0) rfl), .inl rfl⟩
    · rw [show c / 600 % 2 = 1 by lia] at q
      exact ⟨1001, v_f2 (x := .lst .o [.int (-1), .int 1001]) rfl q (ix_lso (k := 1) rfl), .inr rfl⟩
  refine ⟨.o, g.set k (r.set j v), .inr rfl, body fun gg hgg => ?_, .inr ⟨k, r, hgr, .inr (.inr ⟨j, v, hjl, hvv, rfl⟩)⟩⟩
  rw [hgg]
  unfold g__law_hurt_rows
  rw [seq_nx s1, seq_nx s2, ← hρ, seq_nx (skip (t1.trans (by rw [c1]))), seq_nx (skip (t2.trans (by rw [c2]))), seq_nx (skip (t3.trans (by rw [c3])))]
  have fj : f2 dMod (f2 dFdiv (fVar 1) (fC (.int 64))) (fCB cLen (faCons (f2 dIx (fVar 2) (fVar 3)) faNil)) (frzAll ρ) = .ok (.int j) := by
    rw [fa, ← hj]
    exact v_f2 (v_f2 (x := .int c) rfl v_C (o_fdiv _ _ (by decide))) (v_CB (facons (v_f2 (x := .lst .f (gridD .f g)) (y := .int k) (z := .lst .f (r.map D.int)) rfl rfl (ix_lst (grid_get hgr) rfl)) v_nil) (by rw [o_lenL, List.length_map])) (o_mod _ _ rpos)
  refine s_seq (ρ' := ρ.set 2 (some (.lst .o ((gridD .o g).set k (.lst .o ((r.map D.int).set j (.int v))))))) ?_ ?_
  · unfold gSet2E
    rw [hv, aok]
    show inAt ρ 2 3 _ = _
    rw [inat, fj, aok]
    show (match L2.ixN (r.map D.int).length (j : Int) with
      | some j => FOut.nx (ρ.set 2 (some (.lst .o ((gridD .o g).set k (.lst .o ((r.map D.int).set j (.int v)))))))
      | none => .bad) = _
    rw [ixN_nat (by rw [List.length_map]; exact hjl)]
  · rw [← List.map_set, grid_set, hρ]
    rfl
end Lw
namespace Lw
open Mi PySem
def pyI (L : List Int) : PyData := .list (L.map .int)
def pyG (g : List (List Int)) : PyData := .list (g.map pyI)
def pyP (p : Parts) : PyData := .list [pyG p.right, pyG p.up, pyI p.starts, pyI p.ends]
theorem toPys_ints : ∀ L : List Int, toPys (L.map D.int) = some (L.map .int)
  | [] => rfl
  | x :: L => by
    show (match toPy (D.int x), toPys (L.map D.int) with
      | some d, some ds => some (d :: ds)
      | _, _ => none) = _
    rw [toPys_ints L]
    rfl
theorem toPy_ints (t : Tg) (L : List Int) : toPy (.lst t (L.map D.int)) = some (pyI L) := by
  show (toPys (L.map D.int)).map PyData.list = _
  rw [toPys_ints]
  rfl
theorem toPys_grid (t : Tg) : ∀ g : List (List Int), toPys (gridD t g) = some (g.map pyI)
  | [] => rfl
  | r :: g => by
    show (match toPy (D.lst t (r.map D.int)), toPys (gridD t g) with
      | some d, some ds => some (d :: ds)
      | _, _ => none) = _
    rw [toPys_grid t g, toPy_ints]
    rfl
theorem toPy_grid (t t' : Tg) (g : List (List Int)) : toPy (.lst t (gridD t' g)) = some (pyG g) := by
  show (toPys (gridD t' g)).map PyData.list = _
  rw [toPys_grid]
  rfl
theorem toPy_four {t : Tg} {a b c d : D} {a' b' c' d' : PyData} (h1 : toPy a = some a') (h2 : toPy b = some b') (h3 : toPy c = some c') (h4 : toPy d = some d') : toPy (.lst t [a, b, c, d]) = some (.list [a', b', c', d']) := by
  simp only [toPy, toPys, h1, h2, h3, h4, Option.map_some]
structure Small (w : Nat) (d : PyData) : Prop where
  sh : d.showable = true
  nd : d.hasDict = false
  ls : PyData.leavesShort 13 d = true
  wt : d.weight ≤ w
theorem small_int {i : Int} (h : -2000 ≤ i ∧ i ≤ 2000) : Small 12 (.int i) := by
  have hb : i.natAbs < 2 ^ 11 := by lia
  have hl : i.natAbs.log2 < 11 := by
    by_cases h0 : i.natAbs = 0
    · rw [h0]; decide
    · exact (Nat.log2_lt h0).mpr hb
  refine ⟨?_, ?_, ?_, ?_⟩
  · simp only [PyData.showable]; exact decide_eq_true (by lia)
  · simp only [PyData.hasDict]
  · simp only [PyData.leavesShort]; exact decide_eq_true (PyData.shown_int_le (by lia))
  · simp only [PyData.weight]; split <;> lia
structure SmallA (w : Nat) (xs : List PyData) : Prop where
  sh : PyData.showableAll xs = true
  nd : PyData.hasDictAll xs = false
  ls : PyData.leavesShortAll 13 xs = true
  wt : PyData.weightAll xs ≤ w
theorem small_nil : SmallA 0 [] := ⟨by simp only [PyData.showableAll], by simp only [PyData.hasDictAll], by simp only [PyData.leavesShortAll], by simp only [PyData.weightAll]; exact Nat.le_refl _⟩
theorem small_cons {w v : Nat} {d : PyData} {xs : List PyData} (h : Small w d) (r : SmallA v xs) : SmallA (w + 1 + v) (d :: xs) := by
  refine ⟨?_, ?_, ?_, ?_⟩
  · simp only [PyData.showableAll, h.sh, r.sh, Bool.and_self]
  · simp only [PyData.hasDictAll, h.nd, r.nd, Bool.or_self]
  · simp only [PyData.leavesShortAll, h.ls, r.ls, Bool.and_self]
  · simp only [PyData.weightAll]; have := h.wt; have := r.wt; lia
theorem small_list {w : Nat} {xs : List PyData} (r : SmallA w xs) : Small w (.list xs) := by
  refine ⟨?_, ?_, ?_, ?_⟩
  · simp only [PyData.showable]; exact r.sh
  · simp only [PyData.hasDict]; exact r.nd
  · simp only [PyData.leavesShort]; exact r.ls
  · simp only [PyData.weight]; exact r.wt
theorem SmallA.mono {w v : Nat} {xs : List PyData} (r : SmallA w xs) (h : w ≤ v) : SmallA v xs := ⟨r.sh, r.nd, r.ls, Nat.le_trans r.wt h⟩
theorem small_ints : ∀ L : List Int, (∀ v ∈ L, -2000 ≤ v ∧ v ≤ 2000) → SmallA (13 * L.length) (L.map .int)
  | [], _ => small_nil
  | x :: L, h => (small_cons (small_int (h x List.mem_cons_self)) (small_ints L fun v m => h v (List.mem_cons_of_mem _ m))).mono (by rw [List.length_cons]; lia)
theorem small_grid : ∀ g : List (List Int), (∀ r ∈ g, r.length ≤ 20 ∧ ∀ v ∈ r, -2000 ≤ v ∧ v ≤ 2000) → SmallA (261 * g.length) (g.map pyI)
  | [], _ => small_nil
  | r :: g, h => by
    have h0 := h r List.mem_cons_self
    exact (small_cons (small_list (small_ints r h0.2)) (small_grid g fun v m => h v (List.mem_cons_of_mem _ m))).mono (by rw [List.length_cons]; have := h0.1; lia)
theorem dep_ints : ∀ L : List Int, PyData.depthAll (L.map .int) = 0
  | [] => by simp only [List.map_nil, PyData.depthAll]
  | x :: L => by simp only [List.map_cons, PyData.depthAll, PyData.depth, dep_ints L]; rfl
theorem dep_grid : ∀ g : List (List Int), PyData.depthAll (g.map pyI) ≤ 1
  | [] => by simp only [List.map_nil, PyData.depthAll]; decide
  | r :: g => by
    have := dep_grid g
    simp only [List.map_cons, PyData.depthAll, pyI, PyData.depth, dep_ints]
    exact Nat.max_le.mpr ⟨by decide, this⟩
structure Tame (p : Parts) : Prop where
  r : p.right.length ≤ 20
  u : p.up.length ≤ 20
  s : p.starts.length ≤ 20
  e : p.ends.length ≤ 20
  rr : ∀ r ∈ p.right, r.length ≤ 20 ∧ ∀ v ∈ r, -2000 ≤ v ∧ v ≤ 2000
  ur : ∀ r ∈ p.up, r.length ≤ 20 ∧ ∀ v ∈ r, -2000 ≤ v ∧ v ≤ 2000
  ss : ∀ v ∈ p.starts, -2000 ≤ v ∧ v ≤ 2000
  es : ∀ v ∈ p.ends, -2000 ≤ v ∧ v ≤ 2000
theorem repr_ok {p : Parts} (T : Tame p) {t : Tg} {ds : List D} (h : toPy (.lst t ds) = some (pyP p)) : cRepr [.lst t ds] = .ok (.str (pyP p).shown) := by
  have A := small_list (small_cons (small_list (small_grid _ T.rr)) (small_cons (small_list (small_grid _ T.ur)) (small_cons (small_list (small_ints _ T.ss)) (small_cons (small_list (small_ints _ T.es)) small_nil))))
  have hw : (pyP p).weight ≤ 2 ^ 20 := Nat.le_trans A.wt (by have := T.r; have := T.u; have := T.s; have := T.e; lia)
  have hd : (pyP p).depth ≤ 8 := by
    unfold pyP pyG
    simp only [PyData.depth, PyData.depthAll, pyI, dep_ints]
    have h1 := dep_grid p.right
    have h2 := dep_grid p.up
    lia
  show (match toPy (.lst t ds) with
    | some pd => if pd.showable = true ∧ pd.hasDict = false ∧ pd.depth ≤ 8 ∧ pd.shown.length ≤ sizeLine then Res.ok (D.str pd.shown) else .bad
    | none => .bad) = _
  rw [h]
  show (if (pyP p).showable = true ∧ (pyP p).hasDict = false ∧ (pyP p).depth ≤ 8 ∧ (pyP p).shown.length ≤ sizeLine then Res.ok (D.str (pyP p).shown) else .bad) = _
  rw [if_pos ⟨A.sh, A.nd, hd, PyData.shown_fits (B := 13) (by decide) (by decide) A.ls hw⟩]
end Lw
namespace Lw
open Mi PySem
def mkP (R U : List (List Int)) (S E : List Int) : Parts := ⟨(R.headD []).length + 1, R.length, R, U, S, E⟩
theorem hurt_tame {g g' : List (List Int)} (hl : g.length ≤ 8) (hg : ∀ r ∈ g, r.length ≤ 8 ∧ ∀ v ∈ r, 0 ≤ v ∧ v ≤ 1000) (h : Hurt g g') : (g.length ≤ g'.length ∧ g'.length ≤ 20) ∧ ∀ r ∈ g', r.length ≤ 20 ∧ ∀ v ∈ r, -2000 ≤ v ∧ v ≤ 2000 := by
  have old : ∀ r ∈ g, r.length ≤ 20 ∧ ∀ v ∈ r, -2000 ≤ v ∧ v ≤ 2000 := fun r hr => ⟨by have := (hg r hr).1; lia, fun v hv => by have := (hg r hr).2 v hv; lia⟩
  have st : ∀ k x, (x.length ≤ 20 ∧ ∀ v ∈ x, -2000 ≤ v ∧ v ≤ 2000) → (g.length ≤ (g.set k x).length ∧ (g.set k x).length ≤ 20) ∧ ∀ r ∈ g.set k x, r.length ≤ 20 ∧ ∀ v ∈ r, -2000 ≤ v ∧ v ≤ 2000 := fun k x hx => by
    refine ⟨by rw [List.length_set]; lia, fun r hr => ?_⟩
    rcases List.mem_or_eq_of_mem_set hr with m | rfl
    · exact old r m
    · exact hx
  rcases h with rfl | ⟨k, r, hk, h⟩
  · refine ⟨by rw [List.length_append, List.length_singleton]; lia, fun r hr => ?_⟩
    rcases List.mem_append.mp hr with m | m
    · exact old r m
    · rw [List.mem_singleton] at m
      subst m
      decide
  have hr := old r (List.mem_of_getElem? hk)
  have hr8 := (hg r (List.mem_of_getElem? hk)).1
  rcases h with ⟨_, _, rfl⟩ | rfl | ⟨j, v, _, hv, rfl⟩
  · exact st k _ ⟨by rw [List.length_dropLast]; lia, fun v m => hr.2 v (List.dropLast_subset r m)⟩
  · refine st k _ ⟨?_, fun v m => ?_⟩
    · rw [List.length_append, List.length_replicate]
      split <;> lia
    · rcases List.mem_append.mp m with m | m
      · exact hr.2 v m
      · rw [(List.mem_replicate.mp m).2]; decide
  · refine st k _ ⟨by rw [List.length_set]; lia, fun w m => ?_⟩
    rcases List.mem_or_eq_of_mem_set m with m | rfl
    · exact hr.2 w m
    · rcases hv with rfl | rfl <;> decide
theorem two_rows {g : List (List Int)} {k : Nat} {r x : List Int} {c : Nat} (hk : g[k]? = some r) (h1 : 1 < g.length) (hx : x.length ≠ c) (hg : ∀ r ∈ g, r.length = c) (d : Nat) (hd : ∀ r ∈ g.set k x, r.length = d) : False := by
  have hkl : k < g.length := (List.getElem?_eq_some_iff.mp hk).1
  obtain ⟨j, hj, hjk⟩ : ∃ j, j < g.length ∧ j ≠ k := by
    by_cases h0 : k = 0
    · exact ⟨1, h1, by lia⟩
    · exact ⟨0, by lia, fun z => h0 z.symm⟩
  have e1 := hd x (List.mem_of_getElem? (i := k) (by rw [List.getElem?_set_self hkl]))
  have e2 := hd g[j] (List.mem_of_getElem? (i := j) (by rw [List.getElem?_set_ne hjk.symm]; simp [hj]))
  have e3 := hg g[j] (List.getElem_mem hj)
  exact hx (by lia)
theorem bad_val {g : List (List Int)} {k j : Nat} {r : List Int} {v : Int} (hk : g[k]? = some r) (hj : j < r.length) (hv : v = -1 ∨ v = 1001) (h : ∀ q ∈ g.set k (r.set j v), ∀ w ∈ q, 0 ≤ w ∧ w ≤ 1000) : False := by
  have hkl : k < g.length := (List.getElem?_eq_some_iff.mp hk).1
  have := h (r.set j v) (List.mem_of_getElem? (i := k) (by rw [List.getElem?_set_self hkl])) v (List.mem_of_getElem? (i := j) (by rw [List.getElem?_set_self hj]))
  lia
theorem bad_right {p : Parts} (G : Good 8 4 p) {R : List (List Int)} (h : Hurt p.right R) (S E : List Int) (U : List (List Int)) : ¬ Fit (mkP R U S E) := by
  intro F
  have hc := F.c8
  have hr : ∀ r ∈ R, r.length + 1 = (mkP R U S E).cols ∧ ∀ v ∈ r, 0 ≤ v ∧ v ≤ 1000 := F.rr
  generalize (mkP R U S E).cols = cc at hc hr
  have old : ∀ r ∈ p.right, r.length = p.cols - 1 := fun r m => by have := (G.rr r m).1; lia
  rcases h with rfl | ⟨k, r, hk, h⟩
  · have := (hr [1, 2, 3, 4, 5, 6, 7, 8, 9] (by simp)).1
    simp at this
    lia
  have hrl := old r (List.mem_of_getElem? hk)
  have hkl : k < p.right.length := (List.getElem?_eq_some_iff.mp hk).1
  rcases h with ⟨h1, h2, rfl⟩ | rfl | ⟨j, v, hj, hv, rfl⟩
  · refine two_rows hk h1 (x := r.dropLast) ?_ old (cc - 1) fun q m => by have := (hr q m).1; lia
    rw [List.length_dropLast]
    have : 0 < r.length := List.length_pos_iff.mpr h2
    lia
  · by_cases h1 : p.right.length = 1
    · have := (hr _ (List.mem_of_getElem? (i := k) (by rw [List.getElem?_set_self hkl]))).1
      rw [if_pos h1, List.length_append, List.length_replicate] at this
      lia
    · refine two_rows hk (by lia) (x := r ++ List.replicate (if p.right.length = 1 then 9 else 1) 1) ?_ old (cc - 1) fun q m => by have := (hr q m).1; lia
      rw [if_neg h1, List.length_append, List.length_replicate]
      lia
  · exact bad_val hk hj hv fun q m => (hr q m).2
theorem bad_up {p : Parts} (G : Good 8 4 p) {U : List (List Int)} (h : Hurt p.up U) (S E : List Int) (q : Parts) (hq : q.up = U) (hc : q.cols = p.cols) (hrw : q.rows = p.rows) : ¬ Fit q := by
  intro F
  have hr := F.ur
  have hu := F.ul
  rw [hq] at hr hu
  rw [hc] at hr
  rw [hrw] at hu
  have := G.ul
  rcases h with rfl | ⟨k, r, hk, h⟩
  · rw [List.length_append, List.length_singleton] at hu
    lia
  have hrl := (G.ur r (List.mem_of_getElem? hk)).1
  have hkl : k < p.up.length := (List.getElem?_eq_some_iff.mp hk).1
  have at' : ∀ x, (∀ r ∈ p.up.set k x, r.length = p.cols ∧ ∀ v ∈ r, 0 ≤ v ∧ v ≤ 1000) → x.length = p.cols := fun x z => (z x (List.mem_of_getElem? (i := k) (by rw [List.getElem?_set_self hkl]))).1
  rcases h with ⟨h1, h2, rfl⟩ | rfl | ⟨j, v, hj, hv, rfl⟩
  · have := at' _ hr
    rw [List.length_dropLast] at this
    have : 0 < r.length := List.length_pos_iff.mpr h2
    lia
  · have := at' _ hr
    rw [List.length_append, List.length_replicate] at this
    split at this <;> lia
  · exact bad_val hk hj hv fun q m => (hr q m).2
theorem bad_list {rows : Nat} {M : List Int} {z c : Int} : ¬ Bord rows (hurtL M z rows c) := by
  rintro ⟨⟨h1, h2⟩, h3⟩
  obtain ⟨k1, k2⟩ := rising_of _ _ _ h3
  have c0 := Int.emod_nonneg (c / 5) (b := 3) (by decide)
  unfold hurtL at h1 h2 h3 k1 k2
  split at h1
  · simp at h1
  rename_i n0
  rw [if_neg n0] at h2 h3 k1 k2
  split at h1
  · rename_i n1
    rw [if_pos n1] at k1
    have := (List.pairwise_append.mp k1).2.1
    simp at this
  rename_i n1
  rw [if_neg n1] at h2 h3 k1 k2
  split at h1
  · rename_i n2
    rw [if_pos n2] at k2
    have := (k2 (rows + c / 5 % 3) (by simp)).2
    lia
  rename_i n2
  rw [if_neg n2] at h2 h3 k1 k2
  split at h1
  · rename_i n3
    rw [if_pos n3] at k2
    have := (k2 (-1) (by simp)).1
    lia
  rename_i n3
  rw [if_neg n3] at h2
  simp at h2
theorem hurtL_tame {rows : Nat} {M : List Int} {z c : Int} (hr : rows ≤ 8) (hl : M.length ≤ 4) (hM : ∀ v ∈ M ++ [z], 0 ≤ v ∧ v < (rows : Int)) : (hurtL M z rows c).length ≤ 20 ∧ ∀ v ∈ hurtL M z rows c, -2000 ≤ v ∧ v ≤ 2000 := by
  have c0 := Int.emod_nonneg (c / 5) (b := 3) (by decide)
  have c1 := Int.emod_lt_of_pos (c / 5) (b := 3) (by decide)
  have old : ∀ v ∈ M ++ [z], -2000 ≤ v ∧ v ≤ 2000 := fun v m => by have := hM v m; lia
  unfold hurtL
  split
  · exact ⟨by decide, fun _ m => nomatch m⟩
  split
  · refine ⟨by simp; lia, fun v m => old v ?_⟩
    simp at m ⊢
    exact m
  split
  · refine ⟨by simp; lia, fun v m => ?_⟩
    rcases List.mem_append.mp m with m | m
    · exact old v (List.mem_append_left _ m)
    · rw [List.mem_singleton] at m; lia
  split
  · refine ⟨by simp; lia, fun v m => ?_⟩
    rcases List.mem_cons.mp m with rfl | m
    · decide
    · exact old v (List.mem_of_mem_tail m)
  · exact ⟨by decide, by decide⟩
end Lw
namespace Lw
open Mi PySem
theorem s_setIx {i k : Nat} {fk f : FEnv → Res D} {ρ : FEnv} {xs : List D} {d : D} (h0 : ρ[i]? = some (some (.lst .o xs))) (h1 : f ρ = .ok d) (h2 : fk ρ = .ok (.int (k : Int))) (hk : k < xs.length) (hb : d.tag ≠ .b) : gSetIx i fk f ρ = .nx (ρ.set i (some (.lst .o (xs.set k d)))) := by
  unfold gSetIx
  rw [h0]
  simp only [h1, aok, h2]
  rw [ixN_nat hk]
  simp only
  rw [if_neg hb]
theorem hurt_eval (a : Ads) (p : Parts) (w : Nat) (c : Int) (hw : w < 4) {x d : D} (hx : (args p)[w]? = some x) (xa : x.asF = x) (xz : x.fz = x) (hb : d.tag ≠ .b) (h1 : w < 2 → F__law_hurt_rows a [x, .int c] = .ok d) (h2 : 2 ≤ w → F__law_hurt_list a [x, .int p.right.length, .int c] = .ok d) :
    F__law_hurt a [.lst .f (args p), .int w, .int c] = .ok (.lst .o ((args p).set w d)) := by
  refine b_rt rfl ?_
  show g__law_hurt a [some (.lst .f (args p)), some (.int w), some (.int c), none] = _
  unfold g__law_hurt
  have s1 : gSet 3 (fCB cList (faCons (fVar 0) faNil)) [some (.lst .f (args p)), some (.int w), some (.int c), none] = .nx [some (.lst .f (args p)), some (.int w), some (.int c), some (.lst .o (args p))] :=
    s_set (v_CB (x := [.lst .f (args p)]) rfl rfl) (ntb rfl) (by show 3 < 4; decide) rfl
  rw [seq_nx s1]
  obtain ⟨ρ, hρ⟩ : ∃ ρ : FEnv, ρ = [some (.lst .f (args p)), some (.int w), some (.int c), some (.lst .o (args p))] := ⟨_, rfl⟩
  rw [← hρ]
  have e0 : fVar 0 ρ = .ok (.lst .f (args p)) := by rw [hρ]; rfl
  have e1 : fVar 1 ρ = .ok (.int w) := by rw [hρ]; rfl
  have e2 : fVar 2 ρ = .ok (.int c) := by rw [hρ]; rfl
  have e3 : ρ[3]? = some (some (.lst .o (args p))) := by rw [hρ]; rfl
  have ex : f2 dIx (fVar 0) (fVar 1) ρ = .ok x := v_f2 e0 e1 (ix_lst hx xa)
  have tw : ft2 dLt (fVar 1) (fC (.int 2)) ρ = .ok (decide ((w : Int) < 2)) := t_2 e1 v_C (o_lt _ _)
  have fin : gRetV 3 (ρ.set 3 (some (.lst .o ((args p).set w d)))) = .rt (.lst .o ((args p).set w d)) := by rw [hρ]; rfl
  by_cases h : (w : Int) < 2
  · refine s_seq (s_ift tw (decide_eq_true h) (s_setIx e3 (v_call (ds := [x, .int c]) (ds' := [x, .int c]) (facons ex (facons e2 v_nil)) rfl (by rw [fzs_cons, fzs_cons, fzs_nil, xz, fz_int]) (h1 (by lia)) (.inl ⟨?_, hb⟩)) e1 hw hb)) fin
    exact nb_c (by rw [← xz, D.fz_tag]; decide) (nb_c (ntb rfl) nb_n)
  · have l0 : fCB cLen (faCons (f2 dIx (fVar 0) (fC (.int 0))) faNil) ρ = .ok (.int p.right.length) := v_CB (facons (v_f2 (z := .lst .f (gridD .f p.right)) e0 v_C (ix_lst (k := 0) rfl rfl)) v_nil) (by rw [o_lenL, grid_len])
    refine s_seq (s_iff tw (decide_eq_false h) (s_setIx e3 (v_call (ds := [x, .int p.right.length, .int c]) (ds' := [x, .int p.right.length, .int c]) (facons ex (facons l0 (facons e2 v_nil))) rfl (by rw [fzs_cons, fzs_cons, fzs_cons, fzs_nil, xz, fz_int, fz_int]) (h2 (by lia)) (.inl ⟨?_, hb⟩)) e1 hw hb)) fin
    exact nb_c (by rw [← xz, D.fz_tag]; decide) (nb_c (ntb rfl) (nb_c (ntb rfl) nb_n))
structure Bad (p : Parts) : Prop where
  tm : Tame p
  rw' : p.rows = p.right.length
  ex : ∃ r0 rest, p.right = r0 :: rest ∧ p.cols = r0.length + 1
  no : ¬ Fit p
theorem tame_of {p : Parts} (G : Good 8 4 p) : Tame p := by
  obtain ⟨m, m1, m2, rs, re⟩ := G.many
  have r8 := G.r1.2
  refine ⟨by rw [G.rl]; lia, by have := G.ul; lia, by rw [rs.len]; lia, by rw [re.len]; lia, fun r h => ⟨?_, fun v hv => ?_⟩, fun r h => ⟨?_, fun v hv => ?_⟩, fun v h => ?_, fun v h => ?_⟩
  · have := (G.rr r h).1; have := G.c1; lia
  · have := (G.rr r h).2 v hv; lia
  · have := (G.ur r h).1; have := G.c1; lia
  · have := (G.ur r h).2 v hv; lia
  · have := rs.inn v h; lia
  · have := re.inn v h; lia
theorem hurt_ok (a : Ads) (p : Parts) (G : Good 8 4 p) (w : Nat) (hw : w < 4) (c : Int) : ∃ ds q, F__law_hurt a [.lst .f (args p), .int w, .int c] = .ok (.lst .o ds) ∧ D.fzs ds = args q ∧ ds.length = 4 ∧ toPy (.lst .o ds) = some (pyP q) ∧ toPy (.lst .f (args q)) = some (pyP q) ∧ Bad q := by
  obtain ⟨m, m1, m2, rs, re⟩ := G.many
  have T := tame_of G
  have hR8 : p.right.length ≤ 8 := by rw [G.rl]; exact G.r1.2
  have hU8 : p.up.length ≤ 8 := by have := G.ul; have := G.r1; lia
  obtain ⟨r0, rest, hr0⟩ : ∃ r0 rest, p.right = r0 :: rest := by
    cases e : p.right with
    | nil => have := G.rl; have := G.r1; rw [e] at *; simp at *; lia
    | cons r0 rest => exact ⟨r0, rest, rfl⟩
  have hc0 : r0.length + 1 = p.cols := (G.rr r0 (by rw [hr0]; exact List.mem_cons_self)).1
  have pyq : ∀ q : Parts, toPy (.lst .f (args q)) = some (pyP q) := fun q => toPy_four (toPy_grid _ _ _) (toPy_grid _ _ _) (toPy_ints _ _) (toPy_ints _ _)
  match w, hw with
  | 0, _ =>
    obtain ⟨t, g', ht, hF, hH⟩ := hurt_rows a p.right c (by lia) fun r h => by have := (G.rr r h).1; have := G.c1; lia
    have hT := hurt_tame hR8 (fun r h => ⟨by have := (G.rr r h).1; have := G.c1; lia, (G.rr r h).2⟩) hH
    refine ⟨_, mkP g' p.up p.starts p.ends, hurt_eval a p 0 c (by decide) (x := .lst .f (gridD .f p.right)) rfl (as_lst _ _) (fz_grid' _ _ _) (ntb rfl) (fun _ => hF) (fun z => by lia), ?_, rfl, toPy_four (toPy_grid _ _ _) (toPy_grid _ _ _) (toPy_ints _ _) (toPy_ints _ _), pyq _, ⟨⟨hT.1.2, T.u, T.s, T.e, hT.2, T.ur, T.ss, T.es⟩, rfl, ?_, bad_right G hH _ _ _⟩⟩
    · show D.fzs [.lst .o (gridD t g'), .lst .f (gridD .f p.up), .lst .f (p.starts.map D.int), .lst .f (p.ends.map D.int)] = _
      rw [fzs_cons, fzs_cons, fzs_cons, fzs_cons, fzs_nil, fz_grid', fz_grid', fz_ints, fz_ints]
      rfl
    · have h1 : 1 ≤ g'.length := by have := hT.1.1; rw [hr0] at this; simp at this; lia
      match g', h1 with
      | q0 :: qs, _ => exact ⟨q0, qs, rfl, rfl⟩
  | 1, _ =>
    obtain ⟨t, g', ht, hF, hH⟩ := hurt_rows a p.up c (by lia) fun r h => by have := (G.ur r h).1; have := G.c1; lia
    have hT := hurt_tame hU8 (fun r h => ⟨by have := (G.ur r h).1; have := G.c1; lia, (G.ur r h).2⟩) hH
    refine ⟨_, ⟨p.cols, p.rows, p.right, g', p.starts, p.ends⟩, hurt_eval a p 1 c (by decide) (x := .lst .f (gridD .f p.up)) rfl rfl (fz_grid' _ _ _) (ntb rfl) (fun _ => hF) (fun z => by lia), ?_, rfl, toPy_four (toPy_grid _ _ _) (toPy_grid _ _ _) (toPy_ints _ _) (toPy_ints _ _), pyq _, ⟨⟨T.r, hT.1.2, T.s, T.e, T.rr, hT.2, T.ss, T.es⟩, G.rl.symm, ⟨r0, rest, hr0, hc0.symm⟩, bad_up G hH p.starts p.ends _ rfl rfl rfl⟩⟩
    show D.fzs [.lst .f (gridD .f p.right), .lst .o (gridD t g'), .lst .f (p.starts.map D.int), .lst .f (p.ends.map D.int)] = _
    rw [fzs_cons, fzs_cons, fzs_cons, fzs_cons, fzs_nil, fz_grid', fz_grid', fz_ints, fz_ints]
  | 2, _ =>
    obtain ⟨M, z, hS⟩ : ∃ M z, p.starts = M ++ [z] := by
      rcases List.eq_nil_or_concat p.starts with e | ⟨M, z, e⟩
      · have := rs.len; rw [e] at this; simp at this; lia
      · exact ⟨M, z, by rw [e]; simp⟩
    have hMl : M.length ≤ 4 := by have := rs.len; rw [hS] at this; simp at this; lia
    have hF := hurt_list a M z p.right.length c (by lia)
    rw [← hS] at hF
    have hT := hurtL_tame (c := c) (z := z) (M := M) (rows := p.right.length) hR8 hMl fun v mv => by have := rs.inn v (by rw [hS]; exact mv); rw [G.rl]; exact this
    refine ⟨_, ⟨p.cols, p.rows, p.right, p.up, hurtL M z p.right.length c, p.ends⟩, hurt_eval a p 2 c (by decide) (x := .lst .f (p.starts.map D.int)) rfl rfl (fz_ints _ _) (ntb rfl) (fun z => by lia) (fun _ => hF), ?_, rfl, toPy_four (toPy_grid _ _ _) (toPy_grid _ _ _) (toPy_ints _ _) (toPy_ints _ _), pyq _, ⟨⟨T.r, T.u, hT.1, T.e, T.rr, T.ur, hT.2, T.es⟩, G.rl.symm, ⟨r0, rest, hr0, hc0.symm⟩, fun F => ?_⟩⟩
    · show D.fzs [.lst .f (gridD .f p.right), .lst .f (gridD .f p.up), .lst .o ((hurtL M z p.right.length c).map D.int), .lst .f (p.ends.map D.int)] = _
      rw [fzs_cons, fzs_cons, fzs_cons, fzs_cons, fzs_nil, fz_grid', fz_grid', fz_ints, fz_ints]
    · have := F.st
      rw [← G.rl] at this
      exact bad_list this
  | 3, _ =>
    obtain ⟨M, z, hS⟩ : ∃ M z, p.ends = M ++ [z] := by
      rcases List.eq_nil_or_concat p.ends with e | ⟨M, z, e⟩
      · have := re.len; rw [e] at this; simp at this; lia
      · exact ⟨M, z, by rw [e]; simp⟩
    have hMl : M.length ≤ 4 := by have := re.len; rw [hS] at this; simp at this; lia
    have hF := hurt_list a M z p.right.length c (by lia)
    rw [← hS] at hF
    have hT := hurtL_tame (c := c) (z := z) (M := M) (rows := p.right.length) hR8 hMl fun v mv => by have := re.inn v (by rw [hS]; exact mv); rw [G.rl]; exact this
    refine ⟨_, ⟨p.cols, p.rows, p.right, p.up, p.starts, hurtL M z p.right.length c⟩, hurt_eval a p 3 c (by decide) (x := .lst .f (p.ends.map D.int)) rfl rfl (fz_ints _ _) (ntb rfl) (fun z => by lia) (fun _ => hF), ?_, rfl, toPy_four (toPy_grid _ _ _) (toPy_grid _ _ _) (toPy_ints _ _) (toPy_ints _ _), pyq _, ⟨⟨T.r, T.u, T.s, hT.1, T.rr, T.ur, T.ss, hT.2⟩, G.rl.symm, ⟨r0, rest, hr0, hc0.symm⟩, fun F => ?_⟩⟩
    · show D.fzs [.lst .f (gridD .f p.right), .lst .f (gridD .f p.up), .lst .f (p.starts.map D.int), .lst .o ((hurtL M z p.right.length c).map D.int)] = _
      rw [fzs_cons, fzs_cons, fzs_cons, fzs_cons, fzs_nil, fz_grid', fz_grid', fz_ints, fz_ints]
    · have := F.en
      rw [← G.rl] at this
      exact bad_list this
end Lw
namespace Lw
open Mi PySem
theorem whole_ok (a : Ads) (v : Int) : F__law_whole a [.int v] = .ok (.bl true) := by
  refine b_rt (ρ := [some (.int v)]) rfl ?_
  unfold g__law_whole
  exact s_ret (v_and (b := true) (c := true) (v_f1 (x := .int v) rfl rfl) (v_not (b := false) (v_f1 (x := .int v) rfl rfl))) (ntb rfl)
theorem allO_true : ∀ L : List D, ∀ n, (∀ d ∈ L, deqN n d d = some true) → allO ((L.zip L).map fun p => deqN n p.1 p.2) = some true
  | [], _, _ => rfl
  | d :: L, n, h => by
    show allO (deqN n d d :: (L.zip L).map fun p => deqN n p.1 p.2) = _
    rw [h d List.mem_cons_self]
    show (match allO ((L.zip L).map fun p => deqN n p.1 p.2) with
      | some b => some (true && b)
      | none => none) = _
    rw [allO_true L n fun e m => h e (List.mem_cons_of_mem _ m)]
    rfl
theorem deq_lst {n : Nat} {t : Tg} {L : List D} (h : ∀ d ∈ L, deqN n d d = some true) : deqN (n + 1) (.lst t L) (.lst t L) = some true := by
  show (if L.length = L.length then allO ((L.zip L).map fun p => deqN n p.1 p.2) else some false) = _
  rw [if_pos rfl]
  exact allO_true L n h
theorem deq_int (n : Nat) (i : Int) : deqN n (.int i) (.int i) = some true := by cases n <;> simp [deqN]
theorem deq_ints (n : Nat) (t : Tg) (L : List Int) : deqN (n + 1) (.lst t (L.map D.int)) (.lst t (L.map D.int)) = some true := deq_lst fun d m => by
  obtain ⟨i, _, rfl⟩ := List.mem_map.mp m
  exact deq_int n i
theorem deq_grid (n : Nat) (t t' : Tg) (g : List (List Int)) : deqN (n + 2) (.lst t (gridD t' g)) (.lst t (gridD t' g)) = some true := deq_lst fun d m => by
  obtain ⟨r, _, rfl⟩ := List.mem_map.mp m
  exact deq_ints n t' r
theorem deq_pd (p : Parts) : dEq p.d p.d = .ok (.bl true) := by
  have e : deqN 4 p.d p.d = some true := by
    unfold Parts.d
    show (if _ = _ then allO ((List.zip _ _).map fun p => deqN 3 p.1 p.2) else none) = _
    rw [if_pos rfl]
    refine allO_true _ 3 fun d m => ?_
    simp only [List.mem_cons, List.not_mem_nil, or_false] at m
    rcases m with rfl | rfl | rfl | rfl
    · exact deq_grid 1 _ _ _
    · exact deq_grid 1 _ _ _
    · exact deq_ints 2 _ _
    · exact deq_ints 2 _ _
  show (if seqD p.d = true ∧ seqD p.d = true then (match deqN 4 p.d p.d with
    | some b => Res.ok (D.bl b)
    | none => .bad) else _) = _
  rw [if_pos ⟨rfl, rfl⟩, e]
theorem any_g {f : FEnv → Res D} {ρ : FEnv} {g : List (List Int)} (h : f ρ = .ok (.lst .f (gridD .f g))) : fiAny f ρ = .ok (gridD .f g) := by
  unfold fiAny
  rw [h, bok]
  show (if (Tg.f = Tg.b) then Res.bad else ofOpt (some ((gridD .f g).map D.asF))) = _
  rw [if_neg (by decide), map_asF_grid]
  rfl
theorem copy_g {fi : FEnv → Res (List D)} {ρ : FEnv} {g : List (List Int)} (h : fi ρ = .ok (gridD .f g)) (hl : g.length ≤ 1000) : fCompX 1 [] fi (tgName 0) ftTrue (fCB cList (faCons (fVar 0) faNil)) ρ = .ok (.lst .o (gridD .o g)) := by
  have e := comp1 (cap := []) (fi := fi) (fe := fCB cList (faCons (fVar 0) faNil)) (ρ := ρ) (items := gridD .f g) cpL h (fun x hx => by
    obtain ⟨r, _, rfl⟩ := List.mem_map.mp hx
    exact ⟨rfl, ntb rfl⟩) (by rw [grid_len]; exact hl)
  rw [e]
  congr 2
  unfold gridD
  rw [List.map_map]
  refine List.map_congr_left fun r _ => ?_
  show D.lst .o ((r.map D.int).map D.asF) = _
  rw [map_asF_ints]
theorem copy_i {f : FEnv → Res D} {ρ : FEnv} {L : List Int} (h : f ρ = .ok (.lst .f (L.map D.int))) : fCB cList (faCons f faNil) ρ = .ok (.lst .o (L.map D.int)) := by
  unfold fCB
  rw [facons h rfl, bok]
  show Res.ok (D.lst .o ((L.map D.int).map D.asF)) = _
  rw [map_asF_ints]
def gs (p : Parts) : List D := [.lst .o (gridD .o p.right), .lst .o (gridD .o p.up), .lst .o (p.starts.map D.int), .lst .o (p.ends.map D.int)]
theorem gs_fz (p : Parts) : D.fzs (gs p) = args p := by
  unfold gs
  rw [fzs_cons, fzs_cons, fzs_cons, fzs_cons, fzs_nil, fz_grid', fz_grid', fz_ints, fz_ints]
theorem all_o (g : List (List Int)) (h : ∀ r ∈ g, r.length ≤ 20) : ((gridD .o g).all fun r => match r with
    | .lst .o l => decide (l.length < 1000)
    | _ => false) = true := by
  rw [List.all_eq_true]
  intro d m
  obtain ⟨r, hr, rfl⟩ := List.mem_map.mp m
  show decide ((r.map D.int).length < 1000) = true
  rw [List.length_map]
  exact decide_eq_true (by have := h r hr; lia)
theorem spoils_gs {p : Parts} (T : Tame p) {r0 : List Int} {rest : List (List Int)} (h : p.right = r0 :: rest) : spoils .o (gs p) = true := by
  have hr := T.rr r0 (by rw [h]; exact List.mem_cons_self)
  unfold gs
  rw [h]
  show (decide ((r0.map D.int).length < 1000) && decide ((gridD .o p.up).length < 1000) && decide ((p.starts.map D.int).length < 1000) && (gridD .o p.up).all _) = true
  rw [Bool.and_eq_true, Bool.and_eq_true, Bool.and_eq_true, List.length_map, List.length_map, grid_len]
  exact ⟨⟨⟨decide_eq_true (by have := hr.1; lia), decide_eq_true (by have := T.u; lia)⟩, decide_eq_true (by have := T.s; lia)⟩, all_o _ fun r m => (T.ur r m).1⟩
abbrev EL (ns : List Int) (p : Parts) (b : Bool) (gv k n t : Option D) : FEnv := [some (.scr ns), some p.d, some (.bl b), gv, k, n, none, none, t]
end Lw
namespace Lw
open Mi PySem
section
variable {i m ie ir : Nat} {C xC : Addr} {In : Addr → List D → Res (List (Str × D))} {fE : FEnv → Res D} {fT : FEnv → Res Bool} {gr : FEnv → FOut} {ρ : FEnv} {t : Tg} {xs : List D}
theorem gNet_ok {fs : List (Str × D)} {d : D} (h0 : ρ[i]? = some (some (.lst t xs))) (hc : xs.length = 4 ∧ m < ρ.length ∧ ie < ρ.length ∧ ir < ρ.length ∧ t ≠ .b) (h1 : everyF In (D.fzs xs) = .ok fs) (h2 : fT ((frzAll ρ).set m (some (.ins .f C fs))) = .ok false) (h3 : spoils t xs = true) (h4 : gr (((ρ.set i none).set m (some (.ins .f C fs))).set ir none) = .rt d) : gNet i m ie ir C xC In fE fT gr ρ = .rt d := by
  unfold gNet
  rw [h0]
  simp only
  rw [if_pos hc, h1]
  simp only [h2]
  rw [if_pos h3, h4]
  rfl
theorem gNet_exc {b : Bool} (h0 : ρ[i]? = some (some (.lst t xs))) (hc : xs.length = 4 ∧ m < ρ.length ∧ ie < ρ.length ∧ ir < ρ.length ∧ t ≠ .b) (h1 : everyF In (D.fzs xs) = .exc (.ref xC)) (h2 : fE ((frzAll ρ).set ie (some (.exc (.ref xC)))) = .ok (.bl b)) : gNet i m ie ir C xC In fE fT gr ρ = .rt (.bl b) := by
  unfold gNet
  rw [h0]
  simp only
  rw [if_pos hc, h1]
  simp only
  rw [if_pos (by simp [isX]), h2]
  rfl
end
theorem frz_EL (ns : List Int) (p : Parts) (b : Bool) (t : Tg) (ds : List D) (k : Str) : frzAll (EL ns p b (some (.lst t ds)) (some (.str k)) none none) = EL ns p b (some (.lst .f (D.fzs ds))) (some (.str k)) none none := by
  show [some (D.scr ns).fz, some p.d.fz, some (D.bl b).fz, some (D.lst t ds).fz, some (D.str k).fz, none, none, none, none] = _
  rw [fz_pd, fz_bl, fz_lst, fz_str]
  rfl
theorem main (a : Ads) (ns : List Int) (h : ns.length ≤ 63) : F_law a [.scr ns] = .ok (.bl true) := by
  obtain ⟨p, G, d, hp, rfl⟩ := parts_by a ns 8 4 6 (by decide) (by decide) (by decide) (by decide)
  have hp : F__law_parts_by a [.scr ns, .int 8, .int 4, .int 6] = .ok p.d := hp
  have c8 : F__law_cell_at a [.scr ns, .int 8] = .ok (.int (cell ns 8)) := cell_at a ns 8
  have c9 : F__law_cell_at a [.scr ns, .int 9] = .ok (.int (cell ns 9)) := cell_at a ns 9
  have m8 := o_mod (cell ns 8) 3 (by decide)
  have T := tame_of G
  have hR : p.right.length ≤ 1000 := by have := T.r; lia
  have hU : p.up.length ≤ 1000 := by have := T.u; lia
  obtain ⟨r0, rest, hr0⟩ : ∃ r0 rest, p.right = r0 :: rest := by
    cases e : p.right with
    | nil => have := G.rl; have := G.r1; rw [e] at *; simp at *; lia
    | cons r0 rest => exact ⟨r0, rest, rfl⟩
  have hc0 : r0.length + 1 = p.cols := (G.rr r0 (by rw [hr0]; exact List.mem_cons_self)).1
  have gpy : ∀ t, toPy (.lst t (gs p)) = some (pyP p) := fun t => toPy_four (toPy_grid _ _ _) (toPy_grid _ _ _) (toPy_ints _ _) (toPy_ints _ _)
  have apy : ∀ q : Parts, toPy (.lst .f (args q)) = some (pyP q) := fun q => toPy_four (toPy_grid _ _ _) (toPy_grid _ _ _) (toPy_ints _ _) (toPy_ints _ _)
  refine b_rt (ρ := [some (.scr ns), none, none, none, none, none, none, none, none]) rfl ?_
  unfold g_law
  refine s_seq (ρ' := [some (.scr ns), some p.d, none, none, none, none, none, none, none]) (by (repeat' first|(with_reducible first|apply hp)|sizeOf_list_dec)) ?_
  refine s_seq (ρ' := EL ns p (decide (cell ns 8 % 3 = 0)) none none none none) (by (repeat' first|(with_reducible first|apply c8|apply m8)|sizeOf_list_dec)) ?_
  refine s_seq (ρ' := EL ns p (decide (cell ns 8 % 3 = 0)) (some (.lst .o (gs p))) none none none) ?_ ?_
  · refine s_set (d := .lst .o (gs p)) (v_lst (facons (copy_g (any_g (v_f2 (x := p.d) rfl v_C (pd0 p))) hR) (facons (copy_g (any_g (v_f2 (x := p.d) rfl v_C (pd1 p))) hU) (facons (copy_i (v_f2 (x := p.d) rfl v_C (pd2 p))) (facons (copy_i (v_f2 (x := p.d) rfl v_C (pd3 p))) v_nil)))) rfl (by show 4 ≤ 1000; decide)) (ntb rfl) (by show 3 < 9; decide) rfl
  by_cases hb : cell ns 8 % 3 = 0
  · rw [decide_eq_true hb]
    rw [seq_nx (skip (t_not (b := true) (t_B (v_var (d := .bl true) rfl (rd_bl _)))))]
    refine s_seq (ρ' := EL ns p true (some (.lst .o (gs p))) (some (.str (pyP p).shown)) none none) ?_ ?_
    · exact s_set (v_fz (v_CB (facons (v_var (d := .lst .o (gs p)) rfl (rd_lso _)) v_nil) (repr_ok T (gpy .b))) (ntb rfl) (fz_str _)) (ntb rfl) (by show 4 < 9; decide) rfl
    refine gNet_ok (t := .o) (xs := gs p) (fs := flds p) rfl ⟨rfl, by show 5 < 9; decide, by show 6 < 9; decide, by show 7 < 9; decide, by decide⟩ ?_ ?_ (spoils_gs T hr0) ?_
    · rw [gs_fz]
      exact everyF_eq fun x => net_ok a x p 8 4 (by decide) (by decide) G
    · rw [frz_EL, gs_fz]
      refine t_or (b := false) (c := false) (t_not (b := true) (t_B (v_var (d := .bl true) rfl (rd_bl _)))) (t_2 (v_CB (facons (v_var (d := .lst .f (args p)) rfl (rd_lsf _)) v_nil) (repr_ok T (apy p))) (v_var (d := .str (pyP p).shown) rfl (rd_str _)) ?_)
      show Res.ok (D.bl (true != decide ((pyP p).shown = (pyP p).shown))) = _
      rw [decide_eq_true rfl]
      rfl
    · show gSeq _ _ [some (.scr ns), some p.d, some (.bl true), none, some (.str (pyP p).shown), some (.ins .f a.Net (flds p)), none, none, none] = _
      have fl : ∀ (f : Str) (x : D) (e8 : Option D), (flds p).lookup f = some x → x.asF = x → f1 (dFld a.Net f) (fVar 5) [some (.scr ns), some p.d, some (.bl true), none, some (.str (pyP p).shown), some (.ins .f a.Net (flds p)), none, none, e8] = .ok x := fun f x e8 hl hx => by
        refine v_f1 (x := .ins .f a.Net (flds p)) rfl ?_
        show (if a.Net = a.Net then ofOpt (((flds p).lookup f).map D.asF) else Res.bad) = _
        rw [if_pos rfl, hl]
        show Res.ok x.asF = _
        rw [hx]
      have wh : ∀ (f : Str) (v : Int), (flds p).lookup f = some (.int v) → ftNot (ftB (fCallN 1 (F__law_whole a) (faCons (f1 (dFld a.Net f) (fVar 5)) faNil))) [some (.scr ns), some p.d, some (.bl true), none, some (.str (pyP p).shown), some (.ins .f a.Net (flds p)), none, none, none] = .ok false := fun f v hl =>
        t_not (b := true) (t_B (v_call (ds := [.int v]) (facons (fl f (.int v) none hl rfl) v_nil) rfl rfl (whole_ok a v) (.inr rfl)))
      rw [seq_nx (skip (t_or (b := false) (c := false) (wh "columns" p.cols rfl) (wh "rows" p.rows rfl)))]
      refine s_seq (ρ' := [some (.scr ns), some p.d, some (.bl true), none, some (.str (pyP p).shown), some (.ins .f a.Net (flds p)), none, none, some p.d]) ?_ ?_
      · exact s_set (v_fz (v_tup (facons (fl "right" _ none rfl rfl) (facons (fl "up" _ none rfl rfl) (facons (fl "starts" _ none rfl rfl) (facons (fl "ends" _ none rfl rfl) v_nil)))) rfl (by show 4 ≤ 1000; decide) (es' := args p) (by rw [fzs_cons, fzs_cons, fzs_cons, fzs_cons, fzs_nil, fz_grid', fz_grid', fz_ints, fz_ints])) (ntb rfl) (fz_pd p)) (ntb rfl) (by show 8 < 9; decide) rfl
      · have ix00 : f2 dIx (f2 dIx (fVar 1) (fC (.int 0))) (fC (.int 0)) [some (.scr ns), some p.d, some (.bl true), none, some (.str (pyP p).shown), some (.ins .f a.Net (flds p)), none, none, some p.d] = .ok (.lst .f (r0.map D.int)) := by
          refine v_f2 (v_f2 (x := p.d) rfl v_C (pd0 p)) v_C ?_
          rw [hr0]
          exact ix_lst (k := 0) rfl rfl
        refine s_ret (d := .bl true) (v_and (b := true) (c := true) (v_f2 (x := p.d) (y := p.d) rfl rfl (deq_pd p)) (v_and (b := true) (c := true) (v_f2 (fl "columns" (.int p.cols) _ rfl rfl) (v_f2 (v_CB (facons ix00 v_nil) (o_lenL _ _)) v_C (o_cat _ _)) ?_) (v_f2 (fl "rows" (.int p.rows) _ rfl rfl) (v_CB (facons (v_f2 (x := p.d) rfl v_C (pd0 p)) v_nil) (o_lenL _ _)) ?_))) (ntb rfl)
        · rw [o_eqi, List.length_map, decide_eq_true (by lia)]
        · rw [o_eqi, grid_len, G.rl, decide_eq_true rfl]
  · rw [decide_eq_false hb]
    have w0 := Int.emod_nonneg (cell ns 8 / 3) (b := 4) (by decide)
    have w1 := Int.emod_lt_of_pos (cell ns 8 / 3) (b := 4) (by decide)
    obtain ⟨w, hw⟩ : ∃ w : Nat, cell ns 8 / 3 % 4 = (w : Int) := ⟨(cell ns 8 / 3 % 4).toNat, by lia⟩
    obtain ⟨ds, q, hF, hz, hl4, hpy, hpz, B⟩ := hurt_ok a p G w (by lia) (cell ns 9)
    have pyt : ∀ t, toPy (.lst t ds) = some (pyP q) := fun t => hpy
    refine s_seq (ρ' := EL ns p false (some (.lst .o ds)) none none none) ?_ ?_
    · refine s_ift (t_not (b := false) (t_B (v_var (d := .bl false) rfl (rd_bl _)))) rfl ?_
      have fr : frzAt 3 (EL ns p false (some (.lst .o (gs p))) none none none) = EL ns p false (some (.lst .f (args p))) none none none := by
        show [some (.scr ns), some p.d, some (.bl false), some (D.lst .o (gs p)).fz, none, none, none, none, none] = _
        rw [fz_lst, gs_fz]
      show gSet 3 _ (frzAt 3 _) = _
      rw [fr]
      refine s_set (v_call (ds := [.lst .f (args p), .int w, .int (cell ns 9)]) (ds' := [.lst .f (args p), .int w, .int (cell ns 9)]) (facons rfl (facons ?_ (facons (v_call (ds := [.scr ns, .int 9]) rfl rfl rfl c9 (.inr rfl)) v_nil))) rfl ?_ hF (.inl ⟨rfl, ntb rfl⟩)) (ntb rfl) (by show 3 < 9; decide) rfl
      · rw [← hw]
        exact v_f2 (v_f2 (v_call (ds := [.scr ns, .int 8]) rfl rfl rfl c8 (.inr rfl)) v_C (o_fdiv _ _ (by decide))) v_C (o_mod _ _ (by decide))
      · rw [fzs_cons, fzs_cons, fzs_cons, fzs_nil, fz_int, fz_int, fz_lst, fzs_cons, fzs_cons, fzs_cons, fzs_cons, fzs_nil, fz_grid', fz_grid', fz_ints, fz_ints]
    refine s_seq (ρ' := EL ns p false (some (.lst .o ds)) (some (.str (pyP q).shown)) none none) ?_ ?_
    · exact s_set (v_fz (v_CB (facons (v_var (d := .lst .o ds) rfl (rd_lso _)) v_nil) (repr_ok B.tm (pyt .b))) (ntb rfl) (fz_str _)) (ntb rfl) (by show 4 < 9; decide) rfl
    obtain ⟨s0, ss, hs0, hsc⟩ := B.ex
    refine gNet_exc (t := .o) (xs := ds) rfl ⟨hl4, by show 5 < 9; decide, by show 6 < 9; decide, by show 7 < 9; decide, by decide⟩ ?_ ?_
    · rw [hz]
      exact everyF_eq fun x => net_no a x q hs0 B.rw' hsc (fun r hr => by have := (B.tm.rr r hr).1; lia) (fun r hr => by have := (B.tm.ur r hr).1; lia) (by have := B.tm.r; lia) B.no
    · rw [frz_EL, hz]
      have isx : f1 (dIsX [a.BadNet] []) (fVar 6) ((EL ns p false (some (.lst .f (args q))) (some (.str (pyP q).shown)) none none).set 6 (some (.exc (.ref a.BadNet)))) = .ok (.bl true) := by
        refine v_f1 (x := .exc (.ref a.BadNet)) rfl ?_
        show (if a.BadNet ∈ [a.BadNet] then Res.ok (D.bl true) else if a.BadNet ∈ ([] : List Addr) then Res.ok (D.bl false) else Res.bad) = _
        rw [if_pos List.mem_cons_self]
      refine v_and (b := true) (c := true) (v_not (b := false) (v_var (d := .bl false) rfl (rd_bl _))) (v_and (b := true) (c := true) isx (v_and (b := true) (c := true) isx (v_f2 (v_CB (facons (v_var (d := .lst .f (args q)) rfl (rd_lsf _)) v_nil) (repr_ok B.tm hpz)) (v_var (d := .str (pyP q).shown) rfl (rd_str _)) ?_)))
      rw [o_eqs, decide_eq_true rfl]
end Lw
open PySem PySem.W PyProof.Rows
set_option maxRecDepth 100000 in
set_option maxHeartbeats 0 in
theorem PySem.Challenge.cw_lonewalks_k01_nets_holds : PySem.Challenge.rw_lonewalks_k01_nets.Holds := by
  w_on; o_law
  refine holds_open (q := Lw.vw) (loose := []) (Xt := Lw.khX) (XP := XL Lw.vw []) (Yf := Hook.obs (kHook Lw.khK Lw.khAs (fun _ => by kernel_rfl))) (Ya := Hook.val (kHook Lw.khK Lw.khAs (fun _ => by kernel_rfl))) (YP := Hook.says (kHook Lw.khK Lw.khAs (fun _ => by kernel_rfl))) (N := Lw.khN) Lw.left (Hook.of _) (Hook.keeps _) (fun s e => xl_of s (Bool.and_eq_true_iff.mp e).1) XL.keeps (by rfl) (by rfl) (by rfl) (fun s e => recFacts_of (Bool.and_eq_true_iff.mp e).2) (by rfl) (by assumption) (by decide +kernel) ⟨rfl, rfl, rfl, rfl, rfl, by decide +kernel⟩ ?hw ?hc
  case hw => w_witness2
  k_fill
  refine Mi.walkM (l := PySem.Challenge.rw_lonewalks_k01_nets) (n := 63) (k := 4) (x := "script") rfl (by decide) rfl ⟨rfl, by decide, by decide, rfl⟩ (fun w h Y => PySem.W.kIn_of Y) ?F
  case F =>
    intro w mg fa h KX G hmg
    refine' Lw.all_mk Lw.main KX G hmg ?g_0 ?e_0 ?g_2 ?e_2 ?q_BadNet ?kx_BadNet_ValueError ?kx_BadNet_WalkError ?m_BadNet_BadNet ?g_1 ?i_1 ?n_1 ?l_1 ?c_1 ?k_1 ?pg_1 ?hd_1 ?po_1 ?sa_1 ?mk_1 ?kc_1 ?na_Net_columns ?na_Net_ends ?na_Net_right ?na_Net_rows ?na_Net_starts ?na_Net_up ?U_13 ?U_14 ?U_12 ?U_3 ?U_7 ?U_11 ?U_9 ?U_10 ?U_8 ?U_6 ?U_5 ?U_4 ?g_law ?l_law ?c_law ?k_law ?b_ValueError ?b_all ?b_bool ?b_int ?b_isinstance ?b_len ?b_list ?b_max ?b_min ?b_range ?b_repr ?b_sorted ?v_MOST_SIDE ?v_MOST_WALKERS ?v_MOST_WEIGHT ?kt_bool_NoneType ?kt_bool_bool ?kt_bool_int ?kt_bool_str ?kt_bool_list ?kt_bool_tuple ?kt_bool_dict ?kt_int_NoneType ?kt_int_bool ?kt_int_int ?kt_int_str ?kt_int_list ?kt_int_tuple ?kt_int_dict ?nl
    (case g_0 => k_is)
    (case e_0 => k_exc)
    (case g_2 => k_is)
    (case e_2 => k_exc)
    (case q_BadNet => exact Mi.xcAsk_of (by k_is) (by k_is) (by k_is) (by k_is) (by k_is) (by k_is) (by k_is))
    (case kx_BadNet_ValueError => kit_is)
    (case kx_BadNet_WalkError => kit_is)
    (case m_BadNet_BadNet => kts_exm)
    (case g_1 => k_is)
    (case i_1 => k_is)
    (case n_1 => k_is)
    (case l_1 => k_is)
    (case c_1 => k_is)
    (case k_1 => k_is)
    (case pg_1 => k_is)
    (case hd_1 => k_is)
    (case po_1 => k_is)
    (case sa_1 => k_is)
    (case mk_1 => k_is)
    (case kc_1 => k_is)
    (case na_Net_columns => k_is)
    (case na_Net_ends => k_is)
    (case na_Net_right => k_is)
    (case na_Net_rows => k_is)
    (case na_Net_starts => k_is)
    (case na_Net_up => k_is)
    (case U_13 => refine' Mi.df_of KX G ?_ ?_ ?_ ?_ (fun _ _ _ _ _ _ => Lw.ar1 fun _ => rfl) <;> try k_is)
    (case U_14 => refine' Mi.df_of KX G ?_ ?_ ?_ ?_ (fun _ _ _ _ _ _ => Lw.ar3 fun _ _ _ => rfl) <;> try k_is)
    (case U_12 => refine' Mi.df_of KX G ?_ ?_ ?_ ?_ (fun _ _ _ _ _ _ => Lw.ar2 fun _ _ => rfl) <;> try k_is)
    (case U_3 => refine' Mi.df_of KX G ?_ ?_ ?_ ?_ (fun _ _ _ _ _ _ => Lw.ar2 fun _ _ => rfl) <;> try k_is)
    (case U_7 => refine' Mi.df_of KX G ?_ ?_ ?_ ?_ (fun _ _ _ _ _ _ => Lw.ar3 fun _ _ _ => rfl) <;> try k_is)
    (case U_11 => refine' Mi.df_of KX G ?_ ?_ ?_ ?_ (fun _ _ _ _ _ _ => Lw.ar1 fun _ => rfl) <;> try k_is)
    (case U_9 => refine' Mi.df_of KX G ?_ ?_ ?_ ?_ (fun _ _ _ _ _ _ => Lw.ar3 fun _ _ _ => rfl) <;> try k_is)
    (case U_10 => refine' Mi.df_of KX G ?_ ?_ ?_ ?_ (fun _ _ _ _ _ _ => Lw.ar3 fun _ _ _ => rfl) <;> try k_is)
    (case U_8 => refine' Mi.df_of KX G ?_ ?_ ?_ ?_ (fun _ _ _ _ _ _ => Lw.ar4 fun _ _ _ _ => rfl) <;> try k_is)
    (case U_6 => refine' Mi.df_of KX G ?_ ?_ ?_ ?_ (fun _ _ _ _ _ _ => Lw.ar2 fun _ _ => rfl) <;> try k_is)
    (case U_5 => refine' Mi.df_of KX G ?_ ?_ ?_ ?_ (fun _ _ _ _ _ _ => Lw.ar3 fun _ _ _ => rfl) <;> try k_is)
    (case U_4 => refine' Mi.df_of KX G ?_ ?_ ?_ ?_ (fun _ _ _ _ _ _ => Lw.ar3 fun _ _ _ => rfl) <;> try k_is)
    (case g_law => k_is)
    (case l_law => k_is)
    (case c_law => k_is)
    (case k_law => k_is)
    (case b_ValueError => k_is)
    (case b_all => k_is)
    (case b_bool => k_is)
    (case b_int => k_is)
    (case b_isinstance => k_is)
    (case b_len => k_is)
    (case b_list => k_is)
    (case b_max => k_is)
    (case b_min => k_is)
    (case b_range => k_is)
    (case b_repr => k_is)
    (case b_sorted => k_is)
    (case v_MOST_SIDE => k_is)
    (case v_MOST_WALKERS => k_is)
    (case v_MOST_WEIGHT => k_is)
    (case kt_bool_NoneType => kit_is)
    (case kt_bool_bool => kit_is)
    (case kt_bool_int => kit_is)
    (case kt_bool_str => kit_is)
    (case kt_bool_list => kit_is)
    (case kt_bool_tuple => kit_is)
    (case kt_bool_dict => kit_is)
    (case kt_int_NoneType => kit_is)
    (case kt_int_bool => kit_is)
    (case kt_int_int => kit_is)
    (case kt_int_str => kit_is)
    (case kt_int_list => kit_is)
    (case kt_int_tuple => kit_is)
    (case kt_int_dict => kit_is)
    (case nl => (first | rfl | decide | (with_unfolding_all rfl)))
