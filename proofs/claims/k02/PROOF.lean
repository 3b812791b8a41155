import PyProof.Rows.All
import Wide.All
import OpenK.AllK
import Wide.FinOn
import HandS.Base
import HandS.Call
import HandS.List
import HandS.Comp
import HandS.Ends
import HandS.Dict
import HandS.Iter
import HandS.Text
import HandS.More
import HandS.Words
import HandS.Codes
import HandS.Defaults
import HandS.NoneIn
import HandS.HeadHook1
import HandS.HeadHook2
import HandS.IsInst
import HandS.Style
import HandS.Walk
import HandS.CallLocal
import HandS.Head0
import HandS.Head1
import HandS.Head2
import HandS.HeadEnd
import HandS.HeadHook3
import HandS.HeadHook4
import PySem.Challenge.RW_rowscribe_k02_machine_step_by_step
set_option Elab.async false
set_option linter.all false
set_option maxRecDepth 100000
set_option maxHeartbeats 0
/-! The machine as a plain function. -/
namespace Rs
open PySem
inductive Kd where
  | stop | back | say | takeL | move | add | less | load | store | jump | call | skip | zero | same | copy | take
  deriving DecidableEq
def Kd.str : Kd → Str
  | .stop => "stop" | .back => "back" | .say => "say" | .takeL => "take!" | .move => "move" | .add => "add" | .less => "less" | .load => "load" | .store => "store"
  | .jump => "jump" | .call => "call" | .skip => "skip" | .zero => "zero" | .same => "same" | .copy => "copy" | .take => "take"
abbrev Code := Kd × Int × Nat × Nat
def codes : List Code := [(.stop, 0, 0, 0), (.back, 1, 0, 0), (.say, 4, 1, 0), (.takeL, 16, 1, 1), (.move, 32, 2, 0), (.add, 48, 2, 0), (.less, 64, 2, 0), (.load, 80, 1, 1), (.store, 84, 1, 1),
  (.jump, 96, 0, 1), (.call, 97, 0, 1), (.skip, 99, 0, 1), (.zero, 100, 1, 1), (.same, 112, 2, 1), (.copy, 128, 0, 2)]
def span : Nat → Int
  | 0 => 1
  | 1 => 4
  | _ => 16
def findC : List Code → Int → Option Code
  | [], _ => none
  | c :: r, w => if c.2.1 ≤ w ∧ w < c.2.1 + span c.2.2.1 then some c else findC r w
theorem findC_mem {w : Int} {c : Code} : ∀ {l : List Code}, findC l w = some c → c ∈ l ∧ c.2.1 ≤ w ∧ w < c.2.1 + span c.2.2.1
  | [], h => by cases h
  | d :: r, h => by
    unfold findC at h
    by_cases q : d.2.1 ≤ w ∧ w < d.2.1 + span d.2.2.1
    · rw [if_pos q] at h
      cases h
      exact ⟨List.mem_cons_self, q.1, q.2⟩
    · rw [if_neg q] at h
      obtain ⟨a, b⟩ := findC_mem h
      exact ⟨List.mem_cons_of_mem _ a, b⟩
def boxesOf (base : Int) (many : Nat) (w : Int) : List Int := match many with
  | 0 => []
  | 1 => [w - base]
  | _ => [(w - base) / 4, (w - base) % 4]
structure Row where
  k : Kd
  bx : List Int
  nm : List Int
  size : Nat
def rowAt (ws : List Int) (p : Int) : Option Row :=
  if 0 ≤ p ∧ p < (ws.length : Int) then
    if 144 ≤ ws.getD p.toNat 0 ∧ ws.getD p.toNat 0 < 176 then some ⟨.take, [(ws.getD p.toNat 0 - 144) / 8], [(ws.getD p.toNat 0 - 144) % 8], 1⟩
    else match findC codes (ws.getD p.toNat 0) with
      | none => none
      | some c => if p + (1 + c.2.2.2 : Nat) > ws.length then none else some ⟨c.1, boxesOf c.2.1 c.2.2.1 (ws.getD p.toNat 0), (ws.drop (p.toNat + 1)).take c.2.2.2, 1 + c.2.2.2⟩
  else none
structure M where
  cells : List Int
  boxes : List Int
  calls : List Int
  says : List Int
  past : List Int
  place : Int
  why : Str
def doK (k : Kd) (bx nm : List Int) (m : M) : M :=
  let b0 := (bx.getD 0 0).toNat
  let b1 := (bx.getD 1 0).toNat
  let n0 := nm.getD 0 0
  let n1 := nm.getD 1 0
  let x := m.boxes.getD b0 0
  let y := m.boxes.getD b1 0
  match k with
  | .stop => { m with why := "stop" }
  | .back => if m.calls = [] then { m with why := "back" } else { m with place := m.calls.getLastD 0, calls := m.calls.dropLast }
  | .say => { m with says := m.says ++ [x] }
  | .takeL => { m with boxes := m.boxes.set b0 n0 }
  | .take => { m with boxes := m.boxes.set b0 n0 }
  | .move => { m with boxes := m.boxes.set b0 y }
  | .add => { m with boxes := m.boxes.set b0 ((x + y) % 256) }
  | .less => { m with boxes := m.boxes.set b0 ((x - y) % 256) }
  | .load => { m with boxes := m.boxes.set b0 (m.cells.getD n0.toNat 0) }
  | .store => { m with cells := m.cells.set n0.toNat x }
  | .jump => { m with place := n0 }
  | .call => if m.calls.length = 16 then { m with why := "deep" } else { m with calls := m.calls ++ [m.place], place := n0 }
  | .skip => { m with place := m.place + (if n0 < 128 then n0 else n0 - 256) }
  | .zero => if x = 0 then { m with place := n0 } else m
  | .same => if x = y then { m with place := n0 } else m
  | .copy => { m with cells := m.cells.set n1.toNat (m.cells.getD n0.toNat 0) }
def step (ws : List Int) (m : M) : M := match rowAt ws m.place with
  | none => { m with why := if 0 ≤ m.place ∧ m.place < (ws.length : Int) then "none" else "end" }
  | some r => doK r.k r.bx r.nm { m with past := m.past ++ [m.place], place := m.place + r.size }
theorem ne_stop : ¬ (("stop" : Str) = "") := by decide +kernel
theorem ne_back : ¬ (("back" : Str) = "") := by decide +kernel
theorem ne_deep : ¬ (("deep" : Str) = "") := by decide +kernel
theorem ne_none : ¬ (("none" : Str) = "") := by decide +kernel
theorem ne_end : ¬ (("end" : Str) = "") := by decide +kernel
theorem doK_past (k : Kd) (bx nm : List Int) (m : M) : (doK k bx nm m).past = m.past := by
  unfold doK
  cases k <;> dsimp only <;> (try split) <;> rfl
theorem step_none {ws : List Int} {m : M} (h : rowAt ws m.place = none) : step ws m = { m with why := if 0 ≤ m.place ∧ m.place < (ws.length : Int) then "none" else "end" } := by
  unfold step
  rw [h]
theorem step_some {ws : List Int} {m : M} {r : Row} (h : rowAt ws m.place = some r) : step ws m = doK r.k r.bx r.nm { m with past := m.past ++ [m.place], place := m.place + r.size } := by
  unfold step
  rw [h]
def mu (most : Nat) (m : M) : Nat := (most - m.past.length) + (if m.why = "" then 1 else 0)
theorem mu_step {ws : List Int} {most : Nat} {m : M} (h1 : m.why = "") (h2 : m.past.length < most) : mu most (step ws m) < mu most m := by
  unfold mu
  rw [if_pos h1]
  cases e : rowAt ws m.place with
  | none =>
    rw [step_none e]
    dsimp only
    have : ¬ ((if 0 ≤ m.place ∧ m.place < (ws.length : Int) then ("none" : Str) else "end") = "") := by
      split
      · exact ne_none
      · exact ne_end
    rw [if_neg this]
    omega
  | some r =>
    rw [step_some e, doK_past]
    dsimp only
    rw [List.length_append, List.length_singleton]
    split <;> omega
def runW (ws : List Int) (most : Nat) (m : M) : M :=
  if h : m.why = "" ∧ m.past.length < most then runW ws most (step ws m) else m
termination_by mu most m
decreasing_by exact mu_step h.1 h.2
theorem runW_go {ws : List Int} {most : Nat} {m : M} (h1 : m.why = "") (h2 : m.past.length < most) : runW ws most m = runW ws most (step ws m) := by
  rw [runW, dif_pos ⟨h1, h2⟩]
theorem runW_end {ws : List Int} {most : Nat} {m : M} (h : ¬ (m.why = "" ∧ m.past.length < most)) : runW ws most m = m := by
  rw [runW, dif_neg h]
/-- a number that a word may be -/
def Byte (i : Int) : Prop := 0 ≤ i ∧ i < 256
structure Good (m : M) : Prop where
  c : m.cells.length = 256
  b : m.boxes.length = 4
  cv : ∀ x ∈ m.cells, Byte x
  bv : ∀ x ∈ m.boxes, Byte x
  k : m.calls.length ≤ 16
  s : m.says.length ≤ m.past.length
/-- what a row that is read keeps to -/
def nBox : Kd → Nat
  | .stop | .back | .jump | .call | .skip | .copy => 0
  | .say | .takeL | .take | .load | .store | .zero => 1
  | .move | .add | .less | .same => 2
def nNum : Kd → Nat
  | .stop | .back | .say | .move | .add | .less => 0
  | .takeL | .take | .load | .store | .jump | .call | .skip | .zero | .same => 1
  | .copy => 2
def rSize (k : Kd) : Nat := if k = .take then 1 else 1 + nNum k
structure Ok (r : Row) : Prop where
  bl : r.bx.length = nBox r.k
  nl : r.nm.length = nNum r.k
  bv : ∀ x ∈ r.bx, 0 ≤ x ∧ x < 4
  nv : ∀ x ∈ r.nm, Byte x
  sz : r.size = rSize r.k
theorem codes_ok : ∀ c ∈ codes, c.2.2.1 = nBox c.1 ∧ c.2.2.2 = nNum c.1 ∧ c.1 ≠ .take ∧ c.2.2.1 ≤ 2 := by decide
theorem getD_mem {ws : List Int} {i : Nat} (h : i < ws.length) : ws.getD i 0 ∈ ws := by
  rw [List.getD_eq_getElem?_getD, List.getElem?_eq_getElem h]
  exact List.getElem_mem h
theorem byte_getD {ws : List Int} (hw : ∀ x ∈ ws, Byte x) (i : Nat) : Byte (ws.getD i 0) := by
  by_cases h : i < ws.length
  · exact hw _ (getD_mem h)
  · rw [List.getD_eq_getElem?_getD, List.getElem?_eq_none (by omega)]
    exact ⟨by decide, by decide⟩
theorem rowAt_ok {ws : List Int} {p : Int} {r : Row} (hw : ∀ x ∈ ws, Byte x) (h : rowAt ws p = some r) : Ok r := by
  unfold rowAt at h
  by_cases hp : 0 ≤ p ∧ p < (ws.length : Int)
  · rw [if_pos hp] at h
    by_cases ht : 144 ≤ ws.getD p.toNat 0 ∧ ws.getD p.toNat 0 < 176
    · rw [if_pos ht] at h
      cases h
      refine ⟨rfl, rfl, fun x hx => ?_, fun x hx => ?_, rfl⟩
      · have e : x = (ws.getD p.toNat 0 - 144) / 8 := by simpa using hx
        rw [e]
        omega
      · have e : x = (ws.getD p.toNat 0 - 144) % 8 := by simpa using hx
        rw [e]
        constructor <;> omega
    · rw [if_neg ht] at h
      cases e : findC codes (ws.getD p.toNat 0) with
      | none =>
        rw [e] at h
        cases h
      | some c =>
        rw [e] at h
        dsimp only at h
        by_cases hl : p + (1 + c.2.2.2 : Nat) > ws.length
        · rw [if_pos hl] at h
          cases h
        · rw [if_neg hl] at h
          cases h
          obtain ⟨cm, c1, c2⟩ := findC_mem e
          obtain ⟨k1, k2, k3, k4⟩ := codes_ok c cm
          refine ⟨?_, ?_, ?_, fun x hx => ?_, ?_⟩
          · dsimp only
            rw [← k1]
            unfold boxesOf
            generalize hm : c.2.2.1 = mm
            rw [hm] at k4
            match mm, k4 with
            | 0, _ => rfl
            | 1, _ => rfl
            | 2, _ => rfl
          · dsimp only
            rw [List.length_take, List.length_drop, ← k2]
            omega
          · dsimp only
            unfold boxesOf
            generalize hm : c.2.2.1 = mm
            rw [hm] at k4 c2
            intro x hx
            match mm, k4 with
            | 0, _ => cases hx
            | 1, _ =>
              have e : x = ws.getD p.toNat 0 - c.2.1 := by simpa using hx
              have : span 1 = 4 := rfl
              omega
            | 2, _ =>
              have e : x = (ws.getD p.toNat 0 - c.2.1) / 4 ∨ x = (ws.getD p.toNat 0 - c.2.1) % 4 := by simpa using hx
              have : span 2 = 16 := rfl
              omega
          · dsimp only at hx
            exact hw x (List.mem_of_mem_drop (List.mem_of_mem_take hx))
          · dsimp only
            unfold rSize
            rw [if_neg k3, k2]
  · rw [if_neg hp] at h
    cases h
theorem mem_set_byte {l : List Int} {i : Nat} {v : Int} (hl : ∀ x ∈ l, Byte x) (hv : Byte v) : ∀ x ∈ l.set i v, Byte x := fun x hx => by
  rcases List.mem_or_eq_of_mem_set hx with h | h
  · exact hl x h
  · rw [h]; exact hv
theorem doK_good {r : Row} {m : M} (ho : Ok r) (g : Good m) (hs : r.k = .say → m.says.length < m.past.length) : Good (doK r.k r.bx r.nm m) := by
  have by_ := byte_getD g.bv
  have cy := byte_getD g.cv
  have nv : ∀ i, Byte (r.nm.getD i 0) := byte_getD ho.nv
  have m1 : ∀ z : Int, Byte (z % 256) := fun z => by constructor <;> omega
  obtain ⟨k, bx, nm, sz⟩ := r
  unfold doK
  cases k <;> dsimp only
  case stop => exact ⟨g.c, g.b, g.cv, g.bv, g.k, g.s⟩
  case back =>
    split
    · exact ⟨g.c, g.b, g.cv, g.bv, g.k, g.s⟩
    · refine ⟨g.c, g.b, g.cv, g.bv, ?_, g.s⟩
      have := g.k
      simp only [List.length_dropLast]
      omega
  case say =>
    refine ⟨g.c, g.b, g.cv, g.bv, g.k, ?_⟩
    simp only [List.length_append, List.length_singleton]
    exact hs rfl
  case takeL => exact ⟨g.c, by simp [g.b], g.cv, mem_set_byte g.bv (nv 0), g.k, g.s⟩
  case take => exact ⟨g.c, by simp [g.b], g.cv, mem_set_byte g.bv (nv 0), g.k, g.s⟩
  case move => exact ⟨g.c, by simp [g.b], g.cv, mem_set_byte g.bv (by_ _), g.k, g.s⟩
  case add => exact ⟨g.c, by simp [g.b], g.cv, mem_set_byte g.bv (m1 _), g.k, g.s⟩
  case less => exact ⟨g.c, by simp [g.b], g.cv, mem_set_byte g.bv (m1 _), g.k, g.s⟩
  case load => exact ⟨g.c, by simp [g.b], g.cv, mem_set_byte g.bv (cy _), g.k, g.s⟩
  case store => exact ⟨by simp [g.c], g.b, mem_set_byte g.cv (by_ _), g.bv, g.k, g.s⟩
  case jump => exact ⟨g.c, g.b, g.cv, g.bv, g.k, g.s⟩
  case call =>
    split
    · exact ⟨g.c, g.b, g.cv, g.bv, g.k, g.s⟩
    · refine ⟨g.c, g.b, g.cv, g.bv, ?_, g.s⟩
      have := g.k
      simp only [List.length_append, List.length_singleton]
      omega
  case skip => exact ⟨g.c, g.b, g.cv, g.bv, g.k, g.s⟩
  case zero => split <;> exact ⟨g.c, g.b, g.cv, g.bv, g.k, g.s⟩
  case same => split <;> exact ⟨g.c, g.b, g.cv, g.bv, g.k, g.s⟩
  case copy => exact ⟨by simp [g.c], g.b, mem_set_byte g.cv (cy _), g.bv, g.k, g.s⟩
theorem step_good {ws : List Int} {m : M} (hw : ∀ x ∈ ws, Byte x) (g : Good m) : Good (step ws m) := by
  cases e : rowAt ws m.place with
  | none =>
    rw [step_none e]
    exact ⟨g.c, g.b, g.cv, g.bv, g.k, g.s⟩
  | some r =>
    rw [step_some e]
    have gs := g.s
    refine doK_good (rowAt_ok hw e) ⟨g.c, g.b, g.cv, g.bv, g.k, ?_⟩ fun _ => ?_
    · simp only [List.length_append, List.length_singleton]
      omega
    · simp only [List.length_append, List.length_singleton]
      omega
def init (ws : List Int) (begin : Int) : M := ⟨ws ++ List.replicate (256 - ws.length) 0, [0, 0, 0, 0], [], [], [], begin, ""⟩
theorem init_good {ws : List Int} {begin : Int} (hl : ws.length ≤ 256) (hw : ∀ x ∈ ws, Byte x) : Good (init ws begin) := by
  refine ⟨by simp [init]; omega, rfl, fun x hx => ?_, fun x hx => ?_, Nat.zero_le _, Nat.zero_le _⟩
  · rcases List.mem_append.mp hx with h | h
    · exact hw x h
    · rw [(List.mem_replicate.mp h).2]
      exact ⟨by decide, by decide⟩
  · have e : x = 0 := by simpa [init] using hx
    rw [e]
    exact ⟨by decide, by decide⟩
end Rs
/-! Part 1: the text by places, short words, a walk over a written dict. -/
namespace Rs
open PySem PySem.Spec PyProof.Rows L2
def top (i : Nat) : Stmt := PySem.Challenge.pw_rowscribe_k02_machine_step_by_step.main.body.getD i (.Pass ⟨0, 0, 0, 0⟩)
abbrev FnP (K : PySem.W.Frag) (x q : Str) (st : Stmt) (f : Addr) (fd : FuncData) : Prop := FunD K x q (defArgs st) (defBody st) (defScope st) [] [] f fd
/-- a def of the top, as it stands under its name -/
structure DefAt (K : PySem.W.Frag) (mg : Str → Option Value) (x : Str) (st : Stmt) : Prop where
  ex : ∃ fd, FnP K x x st (He.ga K x) fd
  mgx : mg x = some (.ref (He.ga K x))
section
variable {P : Program} {w : World} {K : PySem.W.Frag} {mg : Str → Option Value} {base : Heap}
theorem fnok_of {x q : Str} {st : Stmt} {f : Addr} {fd : FuncData} {N ps : List Str} {k : Nat} {sp : Sp} (F : FnP K x q st f fd) (S : FnScope N ps (defScope st)) (len : ∀ vs H Q E, sp vs H Q E → vs.length = ps.length)
    (hbody : ∀ (cdv : Value) (A : Around) (outer : List Env) (s : Shared) (H : Hp) (vs : List V) (Q : VK) (E : XK), Room k (A.deeper (envOfC q (defScope st) s.heap.objs.size f cdv)) → sp vs H Q E →
      ∃ t, PSs (cxOf CX0 P w K mg base N q (defScope st) f cdv A outer s H E).nox (defBody st) t ∧ t { nx := fun _ H' => Q .non H', rt := Q } (start N vs) H) : FnOk P w K mg base CX0 (k + 1) f fd ps sp := by
  refine FunD.ok F S len fun cdv A outer s H vs Q E hr h => ?_
  obtain ⟨t, h1, h2⟩ := hbody cdv A outer s H vs Q E hr h
  exact ⟨t, h1.nox, h2⟩
theorem cal_of {x : Str} {st : Stmt} {N ps : List Str} {k : Nat} {sp : Sp} (D : DefAt K mg x st) (S : FnScope N ps (defScope st))
    (hb : ∀ (kV doc pm : Value) (an : Option Addr) (cdv ct : Value) (us : List Value), us.length = ps.length → bindArgs (PySem.W.fnOf x x (defArgs st) (defBody st) (defScope st) .none kV doc pm an cdv ct) ⟨us, []⟩ = pure (ps.zip us))
    (len : ∀ vs H Q E, sp vs H Q E → vs.length = ps.length)
    (hbody : ∀ (cdv : Value) (A : Around) (outer : List Env) (s : Shared) (H : Hp) (vs : List V) (Q : VK) (E : XK), Room k (A.deeper (envOfC x (defScope st) s.heap.objs.size (He.ga K x) cdv)) → sp vs H Q E →
      ∃ t, PSs (cxOf CX0 P w K mg base N x (defScope st) (He.ga K x) cdv A outer s H E).nox (defBody st) t ∧ t { nx := fun _ H' => Q .non H', rt := Q } (start N vs) H) : C8.Cal P w K mg base (k + 1) x sp [] := by
  obtain ⟨fd, F⟩ := D.ex
  exact ⟨He.ga K x, fd, ps, [], fnok_of F S len hbody, D.mgx, F.kp, F.bindsN hb, .nil⟩
end
section
variable {X : Cx}
theorem pe_gI {x : Str} {pos : Pos} {i : Int} (hg : Gl X x) (h : ∃ t, X.mg x = some (.int i t)) (hd : (x == ("__debug__" : Str)) = false := by decide) : PE X (.Name x pos) (tC (.int i)) := by
  obtain ⟨t, h⟩ := h
  exact pe_glob hg h ⟨t, rfl⟩ hd
theorem pe_gR {x : Str} {pos : Pos} {a : Addr} (hg : Gl X x) (h : X.mg x = some (.ref a)) (hd : (x == ("__debug__" : Str)) = false := by decide) : PE X (.Name x pos) (tC (.ref a)) := pe_glob hg h rfl hd
end
end Rs
namespace Rs
open PySem PySem.Spec PyProof.Rows L2
/-- a written dict with text keys, these in their order -/
structure KTab (K : PySem.W.Frag) (w : World) (d : Addr) (ks : List Str) : Prop where
  ex : ∃ (es : Array DictEntry) (n : Nat), K.lookup d = some ⟨.type "dict", none, .dict es n, #[]⟩ ∧ PySem.W.KeysLit w.params es.toList ∧ (d == sysModules) = false ∧ es.size = ks.length ∧
    ∀ (i : Nat) (k : Str), ks[i]? = some k → ∃ (en : DictEntry) (t : Tok), es[i]? = some en ∧ en.key = .str k t
def ItkK (ks : List Str) : It := ⟨fun i _ => i < ks.length, fun i H x H' => H' = H ∧ ∃ k, ks[i]? = some k ∧ x = .str k, fun i _ => ks.length ≤ i⟩
section
variable {P : Program} {w : World} {K : PySem.W.Frag} {tg : Expr} {d : Addr}
theorem turn_keysK {ks : List Str} {es : Array DictEntry} {n : Nat} (it : Addr) (hl : K.lookup d = some ⟨.type "dict", none, .dict es n, #[]⟩) (hsz : es.size = ks.length)
    (hk : ∀ (i : Nat) (k : Str), ks[i]? = some k → ∃ (en : DictEntry) (t : Tok), es[i]? = some en ∧ en.key = .str k t) : Turn P w K tg (ItkK ks) [it] it (fun i h => h.IsKeyIter it d i ks.length n) where
  mem := List.mem_singleton.mpr rfl
  obj := fun n hp sti b hm => by
    obtain rfl : b = it := List.mem_singleton.mp hm
    obtain ⟨itO, at1, _, fields⟩ := sti
    refine ⟨itO, at1, fun v absurdCell => ?_⟩
    rw [fields] at absurdCell
    cases absurdCell
  keep := fun n hp hp' sti kept => sti.at fun itO at1 => kept it (List.mem_singleton.mpr rfl) itO at1
  item := by
    intro Y eP eW eK calm n pns sh τ G Er inv fresh sti below
    subst eP eW eK
    obtain ⟨g0, g1, _, g3, g4, g5⟩ := fresh it (List.mem_singleton.mpr rfl)
    have below' : n < ks.length := below
    obtain ⟨key, atKey⟩ : ∃ key, ks[n]? = some key := ⟨ks[n], List.getElem?_eq_getElem below'⟩
    obtain ⟨entry, tok, atEntry, isKey⟩ := hk n key atKey
    refine next_key_item sti (inv.kIn _ _ hl) rfl hsz atEntry fun hp' stn unch => ?_
    have inv' := inv.turned (t' := sh.toks) (h' := hp') (fun b o nb at1 => (unch.2 b nb).trans at1) g0 g1 g3 g4 g5
    obtain ⟨itO, at1, cls1, fields⟩ := id stn
    refine ⟨entry.key, rfl, go_of (s := { sh with heap := hp' }) at1 cls1 fields (by decide) ?_⟩
    exact ⟨.str key, G, inv', ⟨tok, isKey⟩, ⟨rfl, key, atKey, rfl⟩, stn, fun b hm => (fresh b hm).1⟩
  done := by
    intro Y eP eW eK calm n pns sh τ G Er inv fresh sti over
    subst eP eW eK
    obtain ⟨g0, g1, _, g3, g4, g5⟩ := fresh it (List.mem_singleton.mpr rfl)
    have over' : ks.length ≤ n := over
    refine next_key_end (inv.ok.hd calm) sti (inv.kIn _ _ hl) rfl hsz over' fun hp' unch => ?_
    exact ⟨rfl, inv.turned (t' := sh.toks) (fun b o nb at1 => unch b o nb at1) g0 g1 g3 g4 g5⟩
  self := fun _ _ _ _ _ sti wish => wpAny_pyIter_keyiter sti wish
end
def iKeysK (K : PySem.W.Frag) (w : World) (td : TE) : TI := fun σ H R => td σ H fun x H1 => ∃ d ks, x = .ref d ∧ KTab K w d ks ∧ R (ItkK ks) H1
theorem pi_keysK {X : Cx} {tg e : Expr} {td : TE} (he : PE X e td) : PI X tg e (iKeysK X.K X.w td) :=
  ⟨fun pns sh τ G Rest inv wish => by
    refine thn (he.run pns sh τ G _ inv wish) fun val sh1 ⟨x, G1, inv1, relx, d, ks, isD, tab, rest⟩ => ?_
    subst isD
    cases relx
    obtain ⟨es, n, hl, _, low, hsz, hk⟩ := tab.ex
    refine iter_keys low (inv1.kIn _ _ hl) ⟨rfl, rfl, rfl⟩ rfl (pi_one (tk := sh1.toks) inv1 _ (turn_keysK _ hl hsz hk) ⟨_, Heap.get?_push_size _ rfl, rfl, ?_⟩ rest)
    rw [hsz] <;> rfl⟩
theorem for_keysK {ks : List Str} {g : TG} {tb : TS} {D : Ends} {σ : L2.St} {H : Hp} (Pv : Nat → L2.St → Hp → Prop) (h0 : Pv 0 σ H)
    (hs : ∀ i k σ H, ks[i]? = some k → Pv i σ H → g (.str k) σ H fun σ2 H2 => tb { D with nx := Pv (i + 1), ct := Pv (i + 1), bk := D.nx } σ2 H2) (hd : ∀ σ H, Pv ks.length σ H → D.nx σ H) :
    ∃ W : Nat → Nat → L2.St → Hp → Prop, (∃ m, W 0 m σ H) ∧ ∀ i m σ H, W i m σ H →
      ((ItkK ks).stop i H ∧ D.nx σ H) ∨ ((ItkK ks).go i H ∧ ∃ N : L2.St → Hp → Prop, (∀ σ' H', N σ' H' → ∃ m', m' < m ∧ W (i + 1) m' σ' H') ∧ ∀ x H', (ItkK ks).yld i H x H' → g x σ H' fun σ2 H2 => tb { D with nx := N, ct := N, bk := D.nx } σ2 H2) := by
  refine ⟨fun i m σ H => m = ks.length - i ∧ i ≤ ks.length ∧ Pv i σ H, ⟨ks.length, by simp, Nat.zero_le _, h0⟩, ?_⟩
  rintro i m σ H ⟨rfl, hi, p⟩
  by_cases hlt : i < ks.length
  · refine .inr ⟨hlt, Pv (i + 1), fun σ' H' p' => ⟨ks.length - (i + 1), by omega, rfl, hlt, p'⟩, fun x H' y => ?_⟩
    obtain ⟨e, k, hk, ex⟩ := y
    subst e ex
    exact hs i k σ _ hk p
  · have e : i = ks.length := by omega
    subst e
    exact .inl ⟨Nat.le_refl _, hd _ _ p⟩
end Rs
namespace Rs
open PySem PySem.Spec PyProof.Rows L2
abbrev sD_is_whole : Stmt := top 9
abbrev N_is_whole : List Str := ["number", "most"]
theorem sc_is_whole : FnScope N_is_whole ["number", "most"] (defScope sD_is_whole) := ⟨rfl, rfl, rfl, by decide +kernel, rfl, by decide +kernel, by decide +kernel⟩
abbrev sD_check_words : Stmt := top 10
abbrev N_check_words : List Str := ["words", "number", "word"]
theorem sc_check_words : FnScope N_check_words ["words"] (defScope sD_check_words) := ⟨rfl, rfl, rfl, by decide +kernel, rfl, by decide +kernel, by decide +kernel⟩
abbrev sD_check_begin : Stmt := top 11
abbrev N_check_begin : List Str := ["begin"]
theorem sc_check_begin : FnScope N_check_begin ["begin"] (defScope sD_check_begin) := ⟨rfl, rfl, rfl, by decide +kernel, rfl, by decide +kernel, by decide +kernel⟩
abbrev sD_check_most : Stmt := top 12
abbrev N_check_most : List Str := ["most"]
theorem sc_check_most : FnScope N_check_most ["most"] (defScope sD_check_most) := ⟨rfl, rfl, rfl, by decide +kernel, rfl, by decide +kernel, by decide +kernel⟩
abbrev sD_row_size : Stmt := top 19
abbrev N_row_size : List Str := ["op"]
theorem sc_row_size : FnScope N_row_size ["op"] (defScope sD_row_size) := ⟨rfl, rfl, rfl, by decide +kernel, rfl, by decide +kernel, by decide +kernel⟩
abbrev sD_signed : Stmt := top 20
abbrev N_signed : List Str := ["word"]
theorem sc_signed : FnScope N_signed ["word"] (defScope sD_signed) := ⟨rfl, rfl, rfl, by decide +kernel, rfl, by decide +kernel, by decide +kernel⟩
abbrev sD_op_of : Stmt := top 21
abbrev N_op_of : List Str := ["word", "op", "first", "boxes", "numbers"]
theorem sc_op_of : FnScope N_op_of ["word"] (defScope sD_op_of) := ⟨rfl, rfl, rfl, by decide +kernel, rfl, by decide +kernel, by decide +kernel⟩
abbrev sD_boxes_of : Stmt := top 22
abbrev N_boxes_of : List Str := ["op", "word", "first", "many", "numbers"]
theorem sc_boxes_of : FnScope N_boxes_of ["op", "word"] (defScope sD_boxes_of) := ⟨rfl, rfl, rfl, by decide +kernel, rfl, by decide +kernel, by decide +kernel⟩
abbrev sD_row_at : Stmt := top 23
abbrev N_row_at : List Str := ["words", "place", "word", "op"]
theorem sc_row_at : FnScope N_row_at ["words", "place"] (defScope sD_row_at) := ⟨rfl, rfl, rfl, by decide +kernel, rfl, by decide +kernel, by decide +kernel⟩
abbrev sD_Machineinit : Stmt := inClass (top 27) 0
abbrev N_Machineinit : List Str := ["self", "words", "begin"]
theorem sc_Machineinit : FnScope N_Machineinit ["self", "words", "begin"] (defScope sD_Machineinit) := ⟨rfl, rfl, rfl, by decide +kernel, rfl, by decide +kernel, by decide +kernel⟩
abbrev sD_do_stop : Stmt := top 28
abbrev N_do_stop : List Str := ["machine", "boxes", "numbers"]
theorem sc_do_stop : FnScope N_do_stop ["machine", "boxes", "numbers"] (defScope sD_do_stop) := ⟨rfl, rfl, rfl, by decide +kernel, rfl, by decide +kernel, by decide +kernel⟩
abbrev sD_do_back : Stmt := top 29
abbrev N_do_back : List Str := ["machine", "boxes", "numbers"]
theorem sc_do_back : FnScope N_do_back ["machine", "boxes", "numbers"] (defScope sD_do_back) := ⟨rfl, rfl, rfl, by decide +kernel, rfl, by decide +kernel, by decide +kernel⟩
abbrev sD_do_say : Stmt := top 30
abbrev N_do_say : List Str := ["machine", "boxes", "numbers"]
theorem sc_do_say : FnScope N_do_say ["machine", "boxes", "numbers"] (defScope sD_do_say) := ⟨rfl, rfl, rfl, by decide +kernel, rfl, by decide +kernel, by decide +kernel⟩
abbrev sD_do_take : Stmt := top 31
abbrev N_do_take : List Str := ["machine", "boxes", "numbers"]
theorem sc_do_take : FnScope N_do_take ["machine", "boxes", "numbers"] (defScope sD_do_take) := ⟨rfl, rfl, rfl, by decide +kernel, rfl, by decide +kernel, by decide +kernel⟩
abbrev sD_do_move : Stmt := top 32
abbrev N_do_move : List Str := ["machine", "boxes", "numbers"]
theorem sc_do_move : FnScope N_do_move ["machine", "boxes", "numbers"] (defScope sD_do_move) := ⟨rfl, rfl, rfl, by decide +kernel, rfl, by decide +kernel, by decide +kernel⟩
abbrev sD_do_add : Stmt := top 33
abbrev N_do_add : List Str := ["machine", "boxes", "numbers"]
theorem sc_do_add : FnScope N_do_add ["machine", "boxes", "numbers"] (defScope sD_do_add) := ⟨rfl, rfl, rfl, by decide +kernel, rfl, by decide +kernel, by decide +kernel⟩
abbrev sD_do_less : Stmt := top 34
abbrev N_do_less : List Str := ["machine", "boxes", "numbers"]
theorem sc_do_less : FnScope N_do_less ["machine", "boxes", "numbers"] (defScope sD_do_less) := ⟨rfl, rfl, rfl, by decide +kernel, rfl, by decide +kernel, by decide +kernel⟩
abbrev sD_do_load : Stmt := top 35
abbrev N_do_load : List Str := ["machine", "boxes", "numbers"]
theorem sc_do_load : FnScope N_do_load ["machine", "boxes", "numbers"] (defScope sD_do_load) := ⟨rfl, rfl, rfl, by decide +kernel, rfl, by decide +kernel, by decide +kernel⟩
abbrev sD_do_store : Stmt := top 36
abbrev N_do_store : List Str := ["machine", "boxes", "numbers"]
theorem sc_do_store : FnScope N_do_store ["machine", "boxes", "numbers"] (defScope sD_do_store) := ⟨rfl, rfl, rfl, by decide +kernel, rfl, by decide +kernel, by decide +kernel⟩
abbrev sD_do_jump : Stmt := top 37
abbrev N_do_jump : List Str := ["machine", "boxes", "numbers"]
theorem sc_do_jump : FnScope N_do_jump ["machine", "boxes", "numbers"] (defScope sD_do_jump) := ⟨rfl, rfl, rfl, by decide +kernel, rfl, by decide +kernel, by decide +kernel⟩
abbrev sD_do_call : Stmt := top 38
abbrev N_do_call : List Str := ["machine", "boxes", "numbers"]
theorem sc_do_call : FnScope N_do_call ["machine", "boxes", "numbers"] (defScope sD_do_call) := ⟨rfl, rfl, rfl, by decide +kernel, rfl, by decide +kernel, by decide +kernel⟩
abbrev sD_do_skip : Stmt := top 39
abbrev N_do_skip : List Str := ["machine", "boxes", "numbers"]
theorem sc_do_skip : FnScope N_do_skip ["machine", "boxes", "numbers"] (defScope sD_do_skip) := ⟨rfl, rfl, rfl, by decide +kernel, rfl, by decide +kernel, by decide +kernel⟩
abbrev sD_do_zero : Stmt := top 40
abbrev N_do_zero : List Str := ["machine", "boxes", "numbers"]
theorem sc_do_zero : FnScope N_do_zero ["machine", "boxes", "numbers"] (defScope sD_do_zero) := ⟨rfl, rfl, rfl, by decide +kernel, rfl, by decide +kernel, by decide +kernel⟩
abbrev sD_do_same : Stmt := top 41
abbrev N_do_same : List Str := ["machine", "boxes", "numbers"]
theorem sc_do_same : FnScope N_do_same ["machine", "boxes", "numbers"] (defScope sD_do_same) := ⟨rfl, rfl, rfl, by decide +kernel, rfl, by decide +kernel, by decide +kernel⟩
abbrev sD_do_copy : Stmt := top 42
abbrev N_do_copy : List Str := ["machine", "boxes", "numbers"]
theorem sc_do_copy : FnScope N_do_copy ["machine", "boxes", "numbers"] (defScope sD_do_copy) := ⟨rfl, rfl, rfl, by decide +kernel, rfl, by decide +kernel, by decide +kernel⟩
abbrev sD_do_row : Stmt := top 44
abbrev N_do_row : List Str := ["machine", "row", "op", "boxes", "numbers", "action"]
theorem sc_do_row : FnScope N_do_row ["machine", "row"] (defScope sD_do_row) := ⟨rfl, rfl, rfl, by decide +kernel, rfl, by decide +kernel, by decide +kernel⟩
abbrev sD_run : Stmt := top 45
abbrev N_run : List Str := ["words", "begin", "most", "machine", "places", "row"]
theorem sc_run : FnScope N_run ["words", "begin", "most"] (defScope sD_run) := ⟨rfl, rfl, rfl, by decide +kernel, rfl, by decide +kernel, by decide +kernel⟩
abbrev sD__law_start : Stmt := top 47
abbrev N__law_start : List Str := ["_law_script", "_law_mixed", "_law_cell"]
theorem sc__law_start : FnScope N__law_start ["_law_script"] (defScope sD__law_start) := ⟨rfl, rfl, rfl, by decide +kernel, rfl, by decide +kernel, by decide +kernel⟩
abbrev sD__law_drawn : Stmt := top 48
abbrev N__law_drawn : List Str := ["_law_state", "_law_many", "_law_found", "_law_cell"]
theorem sc__law_drawn : FnScope N__law_drawn ["_law_state", "_law_many"] (defScope sD__law_drawn) := ⟨rfl, rfl, rfl, by decide +kernel, rfl, by decide +kernel, by decide +kernel⟩
abbrev sD__law_same : Stmt := top 49
abbrev N__law_same : List Str := ["_law_found", "_law_due", "_law_is_so", "_law_k"]
theorem sc__law_same : FnScope N__law_same ["_law_found", "_law_due"] (defScope sD__law_same) := ⟨rfl, rfl, rfl, by decide +kernel, rfl, by decide +kernel, by decide +kernel⟩
abbrev sD__law_all_codes : Stmt := top 50
abbrev N__law_all_codes : List Str := ["_law_some"]
theorem sc__law_all_codes : FnScope N__law_all_codes [] (defScope sD__law_all_codes) := ⟨rfl, rfl, rfl, by decide +kernel, rfl, by decide +kernel, by decide +kernel⟩
abbrev sD__law_forms : Stmt := top 51
abbrev N__law_forms : List Str := ["_law_row"]
theorem sc__law_forms : FnScope N__law_forms [] (defScope sD__law_forms) := ⟨rfl, rfl, rfl, by decide +kernel, rfl, by decide +kernel, by decide +kernel⟩
abbrev sD__law_read : Stmt := top 52
abbrev N__law_read : List Str := ["_law_words", "_law_place", "_law_first", "_law_op", "_law_base", "_law_many", "_law_more", "_law_one", "_law_two"]
theorem sc__law_read : FnScope N__law_read ["_law_words", "_law_place"] (defScope sD__law_read) := ⟨rfl, rfl, rfl, by decide +kernel, rfl, by decide +kernel, by decide +kernel⟩
abbrev sD__law_any_words : Stmt := top 53
abbrev N__law_any_words : List Str := ["_law_state", "_law_some", "_law_many", "_law_found", "_law_codes", "_law_way", "_law_op", "_law_base", "_law_boxes", "_law_more", "_law_k", "_law_near"]
theorem sc__law_any_words : FnScope N__law_any_words ["_law_state"] (defScope sD__law_any_words) := ⟨rfl, rfl, rfl, by decide +kernel, rfl, by decide +kernel, by decide +kernel⟩
abbrev sD__law_runs : Stmt := top 54
abbrev N__law_runs : List Str := ["_law_words", "_law_begin", "_law_most", "_law_cells", "_law_boxes", "_law_place", "_law_calls", "_law_says", "_law_past", "_law_why", "_law_row", "_law_op", "_law_some", "_law_numbers", "_law_many", "_law_behind", "_law_number", "_law_here", "_law_other", "_law_one"]
theorem sc__law_runs : FnScope N__law_runs ["_law_words", "_law_begin", "_law_most"] (defScope sD__law_runs) := ⟨rfl, rfl, rfl, by decide +kernel, rfl, by decide +kernel, by decide +kernel⟩
abbrev sD_law : Stmt := top 55
abbrev N_law : List Str := ["_law_script", "_law_state", "_law_turn", "_law_words", "_law_begin", "_law_most", "_law_due", "_law_handed", "_law_again", "_law_found", "_law_deep", "_law_k"]
theorem sc_law : FnScope N_law ["_law_script"] (defScope sD_law) := ⟨rfl, rfl, rfl, by decide +kernel, rfl, by decide +kernel, by decide +kernel⟩

/-- what the top has left, as far as it is asked -/
structure Txt (w : World) (K : PySem.W.Frag) (mg : Str → Option Value) : Prop where
  free_len : mg "len" = none
  free_isinstance : mg "isinstance" = none
  free_int : mg "int" = none
  free_bool : mg "bool" = none
  free_list : mg "list" = none
  free_tuple : mg "tuple" = none
  free_range : mg "range" = none
  free_enumerate : mg "enumerate" = none
  g_WORDS_MOST : ∃ t, mg "WORDS_MOST" = some (.int 256 t)
  g_WORD_MOST : ∃ t, mg "WORD_MOST" = some (.int 255 t)
  g_ROWS_DONE_MOST : ∃ t, mg "ROWS_DONE_MOST" = some (.int 1000 t)
  g_TAKE_FIRST : ∃ t, mg "TAKE_FIRST" = some (.int 144 t)
  g_TAKE_SPAN : ∃ t, mg "TAKE_SPAN" = some (.int 32 t)
  g_TAKE_NUMBERS : ∃ t, mg "TAKE_NUMBERS" = some (.int 8 t)
  g_CELLS : ∃ t, mg "CELLS" = some (.int 256 t)
  g_CALLS_MOST : ∃ t, mg "CALLS_MOST" = some (.int 16 t)
  g_OPS : mg "OPS" = some (.ref (He.ga K "OPS"))
  g_SPANS : mg "SPANS" = some (.ref (He.ga K "SPANS"))
  g_ACTIONS : mg "ACTIONS" = some (.ref (He.ga K "ACTIONS"))
  tab : KTab K w (He.ga K "OPS") (codes.map fun c => c.1.str)
  ops : ∀ c ∈ codes, ∃ a, KDct K w (He.ga K "OPS") c.1.str (.ref a) ∧ ∀ H, SqT K H a [.int c.2.1, .int c.2.2.1, .int c.2.2.2]
  spans : ∀ H, SqT K H (He.ga K "SPANS") [.int 1, .int 4, .int 16]
end Rs
namespace Rs
open PySem PySem.Spec PyProof.Rows L2 C8
section
variable {P : Program} {w : World} {K : PySem.W.Frag} {mg : Str → Option Value} {base : Heap}
def spWhole : Sp := fun vs H Q _ => ∃ n m : Int, vs = [.int n, .int m] ∧ Q (.bl (decide (0 ≤ n ∧ n ≤ m))) H
theorem ok_is_whole (D : DefAt K mg "is_whole" sD_is_whole) (T : Txt w K mg) : Cal P w K mg base 1 "is_whole" spWhole [] := by
  refine cal_of D sc_is_whole (fun _ _ _ _ _ _ us hl => match us, hl with | [_, _], _ => rfl) (fun vs H Q E h => ?_) (fun cdv A outer s H vs Q E hr h => ?_)
  · obtain ⟨n, m, rfl, _⟩ := h
    rfl
  · obtain ⟨n, m, rfl, k⟩ := h
    refine ⟨_, (pss_one (ps_ret (pe_and (pe_callB call_isi (by rfl) T.free_isinstance (by decide +kernel) (pa_cons (pv 0) (pa_cons (pe_bltn (by rfl) T.free_int (by decide +kernel) (v := .ty "int") rfl) pa_nil))) (pe_and (pe_not (pe_callB call_isi (by rfl) T.free_isinstance (by decide +kernel) (pa_cons (pv 0) (pa_cons (pe_bltn (by rfl) T.free_bool (by decide +kernel) (v := .ty "bool") rfl) pa_nil)))) (pe_one (pe_chain op_le op_le pe_int (pv 0) (pv 1))))))), ?_⟩
    refine ⟨_, rfl, _, _, _, _, true, rfl, .ty _, .base (.int _), kit_ty (by decide +kernel), true, rfl, iteT ?_⟩
    refine ⟨_, rfl, _, _, _, _, false, rfl, .ty _, .base (.int _), kit_ty (by decide +kernel), false, rfl, true, rfl, iteT ?_⟩
    refine ⟨_, rfl, _, _, rfl, rfl, _, rfl, ?_⟩
    by_cases h0 : 0 ≤ n
    · rw [decide_eq_true h0]
      refine iteT ⟨_, rfl, _, _, rfl, rfl, ?_⟩
      have e : decide (0 ≤ n ∧ n ≤ m) = decide (n ≤ m) := by simp [h0]
      rw [e] at k
      exact k
    · rw [decide_eq_false h0]
      refine iteF ?_
      have e : decide (0 ≤ n ∧ n ≤ m) = false := by simp [h0]
      rw [e] at k
      exact k
def spSigned : Sp := fun vs H Q _ => ∃ n : Int, vs = [.int n] ∧ Q (.int (if n < 128 then n else n - 256)) H
theorem ok_signed (D : DefAt K mg "signed" sD_signed) : Cal P w K mg base 1 "signed" spSigned [] := by
  refine cal_of D sc_signed (fun _ _ _ _ _ _ us hl => match us, hl with | [_], _ => rfl) (fun vs H Q E h => ?_) (fun cdv A outer s H vs Q E hr h => ?_)
  · obtain ⟨n, rfl, _⟩ := h
    rfl
  · obtain ⟨n, rfl, k⟩ := h
    refine ⟨_, (pss_one (ps_ret (pe_ifExp (pt_cmpR op_lt (pv 0) pe_int (nomark _)) (pv 0) (pe_op op_sub (pv 0) pe_int)))), ?_⟩
    refine ⟨_, rfl, _, _, rfl, rfl, _, rfl, ?_⟩
    by_cases h0 : n < 128
    · rw [decide_eq_true h0]
      rw [if_pos h0] at k
      exact iteT ⟨_, rfl, k⟩
    · rw [decide_eq_false h0]
      rw [if_neg h0] at k
      exact iteF ⟨_, rfl, _, _, rfl, rfl, k⟩
def spSize : Sp := fun vs H Q _ => ∃ k : Kd, vs = [.str k.str] ∧ Q (.int (rSize k : Nat)) H
theorem code_of : ∀ k : Kd, k ≠ .take → ∃ c ∈ codes, c.1 = k ∧ rSize k = 1 + c.2.2.2 := by
  intro k h
  cases k <;> first | exact absurd rfl h | decide
theorem str_take : ∀ k : Kd, k ≠ .take → ¬ (k.str = ("take" : Str)) := by
  intro k h
  cases k <;> first | exact absurd rfl h | decide +kernel
theorem ok_row_size (D : DefAt K mg "row_size" sD_row_size) (T : Txt w K mg) : Cal P w K mg base 1 "row_size" spSize [] := by
  refine cal_of D sc_row_size (fun _ _ _ _ _ _ us hl => match us, hl with | [_], _ => rfl) (fun vs H Q E h => ?_) (fun cdv A outer s H vs Q E hr h => ?_)
  · obtain ⟨n, rfl, _⟩ := h
    rfl
  · obtain ⟨d, rfl, k⟩ := h
    refine ⟨_, (pss_one (ps_ret (pe_ifExp (pt_cmpR op_eq (pv 0) pe_str (nomark _)) pe_int (pe_op op_add pe_int (pe_ix ix_tup (pe_ix ix_kdict (pe_gR (by rfl) T.g_OPS) (pv 0) (fun _ _ => rfl)) pe_int (fun _ _ => rfl)))))), ?_⟩
    refine ⟨_, rfl, rfl, _, rfl, ?_⟩
    by_cases hd : d = .take
    · subst hd
      refine ite2 (fun _ => k) (fun q => absurd (decide_eq_true rfl) q)
    · refine ite2 (fun q => absurd (V.str.inj (of_decide_eq_true q)) (str_take d hd)) (fun _ => ?_)
      obtain ⟨c, cm, rfl, ce⟩ := code_of d hd
      obtain ⟨a, ha, hT⟩ := T.ops c cm
      refine ⟨_, rfl, _, _, _, rfl, rfl, ha, _, _, _, _, rfl, rfl, hT _, atI_nat (j := 2) rfl, _, _, rfl, rfl, ?_⟩
      rw [ce] at k
      have e : ((1 + c.2.2.2 : Nat) : Int) = 1 + (c.2.2.2 : Int) := by omega
      rw [e] at k
      exact k
end
end Rs
namespace Rs
open PySem PySem.Spec PyProof.Rows L2 C8
theorem findC_cons (c : Code) (r : List Code) (n : Int) : findC (c :: r) n = if c.2.1 ≤ n ∧ n < c.2.1 + span c.2.2.1 then some c else findC r n := rfl
abbrev il (ws : List Int) : List V := ws.map V.int
theorem ints_get {ws : List Int} {i : Nat} {x : V} (h : (il ws)[i]? = some x) : i < ws.length ∧ x = V.int (ws.getD i 0) := by
  rw [List.getElem?_map] at h
  cases e : ws[i]? with
  | none =>
    rw [e] at h
    cases h
  | some u =>
    rw [e] at h
    obtain ⟨hi, _⟩ := List.getElem?_eq_some_iff.mp e
    refine ⟨hi, ?_⟩
    rw [List.getD_eq_getElem?_getD, e]
    exact (Option.some.inj h).symm
theorem ints_at {ws : List Int} {i : Nat} (h : i < ws.length) : (il ws)[i]? = some (V.int (ws.getD i 0)) := by
  rw [List.getElem?_map, List.getD_eq_getElem?_getD, List.getElem?_eq_getElem h]
  rfl
theorem ints_atI {ws : List Int} {p : Int} (h0 : 0 ≤ p) (h : p < (ws.length : Int)) : atI (il ws) p = some (V.int (ws.getD p.toNat 0)) := by
  have e : p = ((p.toNat : Nat) : Int) := by omega
  rw [e]
  have := atI_nat (ints_at (ws := ws) (i := p.toNat) (by omega))
  exact this
theorem _root_.L2.Same.new {H : Hp} {p : Addr} {o : HO} (h : H p = none) : Same H (upd H p o) := fun b u e => by rw [upd_ne (ne_of_none e h)]; exact e
theorem _root_.L2.Same.add {H H' : Hp} {p : Addr} {o : HO} (s : Same H H') (h : H' p = none) : Same H (upd H' p o) := s.trans (Same.new h)
theorem _root_.L2.Same.putNew {H H' : Hp} {p : Addr} {o : HO} (s : Same H H') (h : H p = none) : Same H (upd H' p o) := fun b u e => by rw [upd_ne (ne_of_none e h)]; exact s _ _ e
theorem _root_.L2.Same.tup {K : PySem.W.Frag} {H H' : Hp} {a : Addr} {xs : List V} (e : Same H H') (h : SqT K H a xs) : SqT K H' a xs := by
  rcases h with (h | ⟨o, h⟩) | h
  · exact .inl (.inl (e _ _ h))
  · exact .inl (.inr ⟨o, e _ _ h⟩)
  · exact .inr h
section
variable {P : Program} {w : World} {K : PySem.W.Frag} {mg : Str → Option Value} {base : Heap}
def Bytes (ws : List Int) : Prop := ∀ x ∈ ws, Byte x
def spCheckW (K : PySem.W.Frag) : Sp := fun vs H Q _ => ∃ (a : Addr) (ws : List Int), vs = [.ref a] ∧ SqL K H a (il ws) ∧ ws.length ≤ 256 ∧ Bytes ws ∧ ∀ H', Same H H' → Q .non H'
theorem ok_check_words (D : DefAt K mg "check_words" sD_check_words) (T : Txt w K mg) (c_is_whole : Cal P w K mg base 1 "is_whole" spWhole []) : Cal P w K mg base 2 "check_words" (spCheckW K) [] := by
  refine cal_of D sc_check_words (fun _ _ _ _ _ _ us hl => match us, hl with | [_], _ => rfl) (fun vs H Q E h => ?_) (fun cdv A outer s H vs Q E hr h => ?_)
  · obtain ⟨a, ws, rfl, _⟩ := h
    rfl
  · obtain ⟨a, ws, rfl, hS, hl, hb, k⟩ := h
    refine ⟨_, (pss_one (ps_for PassesOwn.never rfl (pi_enum (by rfl) T.free_enumerate (pa_cons (pv 0) pa_nil)) (pg_tup rfl (pgs_cons (pg_name (i := 1) sc_check_words.nd rfl (Or.inl rfl)) (pgs_cons (pg_name (i := 2) sc_check_words.nd rfl (Or.inl rfl)) pgs_nil)))
   (pss_one (ps_if (PW.pt (pw_or (pt_cmpR op_ge (pv 1) (pe_gI (by rfl) T.g_WORDS_MOST) (nomark _)) (pw_or1 (pt_not (pt_val (pe_c c_is_whole hr (by decide) (by rfl) (pa_cons (pv 2) (pa_cons (pe_gI (by rfl) T.g_WORD_MOST) pa_nil))))))))
   (pss_one ps_never)
   pss_nil)))), ?_⟩
    refine ⟨_, rfl, a, _, rfl, hS, for_it (walk_enum (K := K) (a := a) (xs := il ws)) (fun i σ H' => Same H H' ∧ ∃ x y, σ = [some (.ref a), x, y]) ⟨Same.refl _, _, _, rfl⟩ (fun i σ H' _ ⟨s, _⟩ => s.seq hS) ?_ (fun σ H' ⟨s, _⟩ => k _ s)⟩
    rintro i v σ H1 H2 hi ⟨s1, x, y, rfl⟩ ⟨T', x1, y1, rfl, hn, rfl, e1, e2⟩
    cases e1
    obtain ⟨hi2, rfl⟩ := ints_get e2
    have hby := hb _ (getD_mem hi2)
    refine ⟨T', _, rfl, SqT.of upd_same, rfl, _, _, rfl, _, _, rfl, rfl, ?_⟩
    refine ⟨_, rfl, _, _, rfl, rfl, _, rfl, ?_⟩
    have e0 : decide ((256 : Int) ≤ ((i : Nat) : Int)) = false := decide_eq_false (by omega)
    rw [e0]
    refine iteF ?_
    refine ⟨_, rfl, _, _, rfl, _, rfl, ?_⟩
    have e3 : decide (0 ≤ ws.getD i 0 ∧ ws.getD i 0 ≤ 255) = true := decide_eq_true ⟨hby.1, by have := hby.2; omega⟩
    rw [e3]
    exact iteF ⟨s1.add hn, _, _, rfl⟩
def spCheckB : Sp := fun vs H Q _ => ∃ n : Int, vs = [.int n] ∧ 0 ≤ n ∧ n ≤ 255 ∧ Q .non H
theorem ok_check_begin (D : DefAt K mg "check_begin" sD_check_begin) (T : Txt w K mg) (c_is_whole : Cal P w K mg base 1 "is_whole" spWhole []) : Cal P w K mg base 2 "check_begin" spCheckB [] := by
  refine cal_of D sc_check_begin (fun _ _ _ _ _ _ us hl => match us, hl with | [_], _ => rfl) (fun vs H Q E h => ?_) (fun cdv A outer s H vs Q E hr h => ?_)
  · obtain ⟨n, rfl, _⟩ := h
    rfl
  · obtain ⟨n, rfl, h0, h1, k⟩ := h
    refine ⟨_, (pss_one (ps_if (pt_not (pt_val (pe_c c_is_whole hr (by decide) (by rfl) (pa_cons (pv 0) (pa_cons (pe_gI (by rfl) T.g_WORD_MOST) pa_nil)))))
   (pss_one ps_never)
   pss_nil)), ?_⟩
    refine ⟨_, rfl, _, _, rfl, _, rfl, ?_⟩
    have e3 : decide (0 ≤ n ∧ n ≤ 255) = true := decide_eq_true ⟨h0, h1⟩
    rw [e3]
    exact iteF k
def spCheckM : Sp := fun vs H Q _ => ∃ n : Int, vs = [.int n] ∧ 0 ≤ n ∧ n ≤ 1000 ∧ Q .non H
theorem ok_check_most (D : DefAt K mg "check_most" sD_check_most) (T : Txt w K mg) (c_is_whole : Cal P w K mg base 1 "is_whole" spWhole []) : Cal P w K mg base 2 "check_most" spCheckM [] := by
  refine cal_of D sc_check_most (fun _ _ _ _ _ _ us hl => match us, hl with | [_], _ => rfl) (fun vs H Q E h => ?_) (fun cdv A outer s H vs Q E hr h => ?_)
  · obtain ⟨n, rfl, _⟩ := h
    rfl
  · obtain ⟨n, rfl, h0, h1, k⟩ := h
    refine ⟨_, (pss_one (ps_if (pt_not (pt_val (pe_c c_is_whole hr (by decide) (by rfl) (pa_cons (pv 0) (pa_cons (pe_gI (by rfl) T.g_ROWS_DONE_MOST) pa_nil)))))
   (pss_one ps_never)
   pss_nil)), ?_⟩
    refine ⟨_, rfl, _, _, rfl, _, rfl, ?_⟩
    have e3 : decide (0 ≤ n ∧ n ≤ 1000) = true := decide_eq_true ⟨h0, h1⟩
    rw [e3]
    exact iteF k
def opOf (w : Int) : Option Kd := if 144 ≤ w ∧ w < 176 then some .take else (findC codes w).map (·.1)
def spOpOf : Sp := fun vs H Q _ => ∃ n : Int, vs = [.int n] ∧ Q (match opOf n with | none => .non | some k => .str k.str) H
theorem span_at : ∀ c ∈ codes, ([V.int 1, V.int 4, V.int 16] : List V)[c.2.2.1]? = some (V.int (span c.2.2.1)) := by decide
theorem ok_op_of (D : DefAt K mg "op_of" sD_op_of) (T : Txt w K mg) : Cal P w K mg base 1 "op_of" spOpOf [] := by
  refine cal_of D sc_op_of (fun _ _ _ _ _ _ us hl => match us, hl with | [_], _ => rfl) (fun vs H Q E h => ?_) (fun cdv A outer s H vs Q E hr h => ?_)
  · obtain ⟨n, rfl, _⟩ := h
    rfl
  · obtain ⟨n, rfl, k⟩ := h
    refine ⟨_, (pss_cut (ps_if (pt_chain op_le op_lt (pe_gI (by rfl) T.g_TAKE_FIRST) (pv 0) (pe_op op_add (pe_gI (by rfl) T.g_TAKE_FIRST) (pe_gI (by rfl) T.g_TAKE_SPAN)))
   (pss_one (ps_ret pe_str))
   pss_nil)
  (pss_cons (ps_for PassesOwn.never rfl (pi_keysK (pe_gR (by rfl) T.g_OPS)) (pg_name (i := 1) sc_op_of.nd rfl (Or.inl rfl))
   (pss_cons (ps_asg (pe_ix ix_kdict (pe_gR (by rfl) T.g_OPS) (pv 1) (fun _ _ => rfl)) (pg_tup rfl (pgs_cons (pg_name (i := 2) sc_op_of.nd rfl (Or.inl rfl)) (pgs_cons (pg_name (i := 3) sc_op_of.nd rfl (Or.inl rfl)) (pgs_cons (pg_name (i := 4) sc_op_of.nd rfl (Or.inl rfl)) pgs_nil)))))
  (pss_one (ps_if (pt_chain op_le op_lt (pv 2) (pv 0) (pe_op op_add (pv 2) (pe_ix ix_tup (pe_gR (by rfl) T.g_SPANS) (pv 3) (fun _ _ => rfl))))
   (pss_one (ps_ret (pv 1)))
   pss_nil))))
  (pss_one (ps_ret pe_non)))), ?_⟩
    refine ⟨fun σ' H' => σ' = start N_op_of [.int n] ∧ H' = H ∧ ¬ (144 ≤ n ∧ n < 176), ?_, ?_⟩
    · refine ⟨_, rfl, _, _, rfl, rfl, _, rfl, ?_⟩
      by_cases h1 : 144 ≤ n
      · rw [decide_eq_true h1]
        refine iteT ⟨_, _, rfl, rfl, _, _, rfl, rfl, _, rfl, ?_⟩
        by_cases h2 : n < 144 + 32
        · rw [decide_eq_true h2]
          refine iteT ?_
          have e : opOf n = some .take := if_pos ⟨h1, by omega⟩
          rw [e] at k
          exact k
        · rw [decide_eq_false h2]
          exact iteF ⟨rfl, rfl, by omega⟩
      · rw [decide_eq_false h1]
        exact iteF ⟨_, rfl, iteF ⟨rfl, rfl, by omega⟩⟩
    · rintro σ' H' ⟨rfl, rfl, hn⟩
      have eo : opOf n = (findC codes n).map (·.1) := if_neg hn
      rw [eo] at k
      refine ⟨_, _, rfl, T.tab, for_keysK (fun i σ H1 => H1 = H' ∧ findC (codes.drop i) n = findC codes n ∧ ∃ x y z u, σ = [some (.int n), x, y, z, u]) ⟨rfl, rfl, _, _, _, _, rfl⟩ ?_ ?_⟩
      · rintro i op σ H1 hop ⟨rfl, hf, x, y, z, u, rfl⟩
        rw [List.getElem?_map] at hop
        cases ec : codes[i]? with
        | none =>
          rw [ec] at hop
          cases hop
        | some c =>
          rw [ec] at hop
          cases hop
          have cm : c ∈ codes := List.mem_of_getElem? ec
          obtain ⟨hi, ei⟩ := List.getElem?_eq_some_iff.mp ec
          obtain ⟨a, ha, hT⟩ := T.ops c cm
          rw [List.drop_eq_getElem_cons hi, ei] at hf
          rw [findC_cons] at hf
          refine ⟨_, rfl, _, _, _, rfl, rfl, ha, a, _, rfl, hT _, rfl, _, _, rfl, _, _, rfl, _, _, rfl, rfl, ?_⟩
          refine ⟨_, rfl, _, rfl, _, _, rfl, rfl, _, rfl, ?_⟩
          by_cases h1 : c.2.1 ≤ n
          · rw [decide_eq_true h1]
            refine iteT ⟨_, rfl, _, rfl, _, _, _, _, rfl, rfl, T.spans _, atI_nat (span_at c cm), _, _, rfl, rfl, _, _, rfl, rfl, _, rfl, ?_⟩
            by_cases h2 : n < c.2.1 + span c.2.2.1
            · rw [decide_eq_true h2]
              refine iteT ⟨_, rfl, ?_⟩
              rw [if_pos ⟨h1, h2⟩] at hf
              rw [← hf] at k
              exact k
            · rw [decide_eq_false h2]
              rw [if_neg (fun q => h2 q.2)] at hf
              exact iteF ⟨rfl, hf, _, _, _, _, rfl⟩
          · rw [decide_eq_false h1]
            rw [if_neg (fun q => h1 q.1)] at hf
            exact iteF ⟨_, rfl, iteF ⟨rfl, hf, _, _, _, _, rfl⟩⟩
      · rintro σ H1 ⟨rfl, hf, x, y, z, u, rfl⟩
        have e0 : codes.drop (codes.map fun c => c.1.str).length = [] := by rw [List.length_map]; exact List.drop_length
        rw [e0] at hf
        rw [← hf] at k
        exact k
end
end Rs
namespace Rs
open PySem PySem.Spec PyProof.Rows L2 C8
section
variable {P : Program} {w : World} {K : PySem.W.Frag} {mg : Str → Option Value} {base : Heap}
def spBoxes : Sp := fun vs H Q _ => ∃ (c : Code) (n : Int), vs = [.str c.1.str, .int n] ∧ c ∈ codes ∧ ∀ H' b, Same H H' → H b = none → H' b = some (.lst (il (boxesOf c.2.1 c.2.2.1 n))) → Q (.ref b) H'
theorem ok_boxes_of (D : DefAt K mg "boxes_of" sD_boxes_of) (T : Txt w K mg) : Cal P w K mg base 1 "boxes_of" spBoxes [] := by
  refine cal_of D sc_boxes_of (fun _ _ _ _ _ _ us hl => match us, hl with | [_, _], _ => rfl) (fun vs H Q E h => ?_) (fun cdv A outer s H vs Q E hr h => ?_)
  · obtain ⟨c, n, rfl, _⟩ := h
    rfl
  · obtain ⟨c, n, rfl, cm, k⟩ := h
    refine ⟨_, (pss_cons (ps_asg (pe_ix ix_kdict (pe_gR (by rfl) T.g_OPS) (pv 0) (fun _ _ => rfl)) (pg_tup rfl (pgs_cons (pg_name (i := 2) sc_boxes_of.nd rfl (Or.inl rfl)) (pgs_cons (pg_name (i := 3) sc_boxes_of.nd rfl (Or.inl rfl)) (pgs_cons (pg_name (i := 4) sc_boxes_of.nd rfl (Or.inl rfl)) pgs_nil)))))
  (pss_cons (ps_if (pt_cmpR op_eq (pv 3) pe_int (nomark _))
   (pss_one (ps_ret (pe_lst (pa_cons (pe_op op_fdiv (pe_op op_sub (pv 1) (pv 2)) pe_int) (pa_cons (pe_op op_mod (pe_op op_sub (pv 1) (pv 2)) pe_int) pa_nil)))))
   pss_nil)
  (pss_one (ps_ret (pe_op op_rep (pe_lst (pa_cons (pe_op op_sub (pv 1) (pv 2)) pa_nil)) (pv 3)))))), ?_⟩
    obtain ⟨a, ha, hT⟩ := T.ops c cm
    obtain ⟨k1, k2, k3, k4⟩ := codes_ok c cm
    refine ⟨_, rfl, _, _, _, rfl, rfl, ha, a, _, rfl, hT _, rfl, _, _, rfl, _, _, rfl, _, _, rfl, rfl, ?_⟩
    generalize hm : c.2.2.1 = mm at k k4
    refine ⟨_, rfl, rfl, _, rfl, ?_⟩
    by_cases h2 : mm = 2
    · subst h2
      refine ite2 (fun _ => ?_) (fun q => absurd (decide_eq_true rfl) q)
      refine ⟨_, rfl, _, rfl, _, _, rfl, rfl, _, _, rfl, rfl, ⟨by decide, by decide⟩, _, rfl, _, rfl, _, _, rfl, rfl, _, _, rfl, rfl, (by show (0 : Int) < 4; decide), (by show 2 ≤ sizeLine; decide), fun b hb => ?_⟩
      exact k _ b (Same.new hb) hb upd_same
    · refine ite2 (fun q => absurd (V.int.inj (of_decide_eq_true q)) (by omega)) (fun _ => ?_)
      refine ⟨_, rfl, _, rfl, _, _, rfl, rfl, (by show 1 ≤ sizeLine; decide), fun p hp => ?_⟩
      refine ⟨_, rfl, p, _, _, rfl, rfl, upd_same, by omega, by omega, ?_, fun b hb => ?_⟩
      · have : mm ≤ 2 := k4
        have e : (((mm : Nat) : Int)).toNat = mm := by omega
        rw [e]
        have : ([V.int (n - c.2.1)] : List V).length * mm ≤ 2 := by simp; omega
        exact Nat.le_trans this (by decide)
      · have hb0 : H b = none := (Same.new (o := .lst [V.int (n - c.2.1)]) hp).free hb
        refine k _ b ((Same.new hp).add hb) hb0 ?_
        rw [upd_same]
        match mm, k4, h2 with
        | 0, _, _ => rfl
        | 1, _, _ => rfl
        | 2, _, h => exact absurd rfl h
def spRowAt (K : PySem.W.Frag) : Sp := fun vs H Q _ => ∃ (a : Addr) (ws : List Int) (p : Int), vs = [.ref a, .int p] ∧ SqL K H a (il ws) ∧ ws.length ≤ 256 ∧
  (rowAt ws p = none → Q .non H) ∧ ∀ r, rowAt ws p = some r → ∀ H' t b n, Same H H' → H t = none → H b = none → H n = none → H' t = some (.tup [.str r.k.str, .ref b, .ref n]) → H' b = some (.lst (il r.bx)) → H' n = some (.lst (il r.nm)) → Q (.ref t) H'
theorem cut_il {ws : List Int} {lo : Nat} (hi : Nat) (h : lo ≤ ws.length) : cutV (il ws) (some (lo : Int)) (some (hi : Int)) = il ((ws.drop lo).take (hi - lo)) := by
  unfold cutV il
  rw [HT.sIx_nat, HT.sIx_nat, List.length_map, ← List.map_drop, ← List.map_take]
  congr 1
  rw [Nat.min_eq_left h]
  by_cases h2 : hi ≤ ws.length
  · rw [Nat.min_eq_left h2]
  · rw [Nat.min_eq_right (by omega), List.take_of_length_le (by rw [List.length_drop]; omega), List.take_of_length_le (by rw [List.length_drop]; omega)]
theorem rowAt_in {ws : List Int} {p : Int} (hp : 0 ≤ p ∧ p < (ws.length : Int)) : rowAt ws p = (if 144 ≤ ws.getD p.toNat 0 ∧ ws.getD p.toNat 0 < 176 then some ⟨.take, [(ws.getD p.toNat 0 - 144) / 8], [(ws.getD p.toNat 0 - 144) % 8], 1⟩
    else match findC codes (ws.getD p.toNat 0) with
      | none => none
      | some c => if p + (1 + c.2.2.2 : Nat) > ws.length then none else some ⟨c.1, boxesOf c.2.1 c.2.2.1 (ws.getD p.toNat 0), (ws.drop (p.toNat + 1)).take c.2.2.2, 1 + c.2.2.2⟩) := by
  unfold rowAt
  rw [if_pos hp] <;> rfl
theorem ok_row_at (D : DefAt K mg "row_at" sD_row_at) (T : Txt w K mg) (c_op_of : Cal P w K mg base 1 "op_of" spOpOf []) (c_row_size : Cal P w K mg base 1 "row_size" spSize []) (c_boxes_of : Cal P w K mg base 1 "boxes_of" spBoxes []) :
    Cal P w K mg base 2 "row_at" (spRowAt K) [] := by
  refine cal_of D sc_row_at (fun _ _ _ _ _ _ us hl => match us, hl with | [_, _], _ => rfl) (fun vs H Q E h => ?_) (fun cdv A outer s H vs Q E hr h => ?_)
  · obtain ⟨c, n, p, rfl, _⟩ := h
    rfl
  · obtain ⟨a, ws, p, rfl, hS, hl, k0, k⟩ := h
    refine ⟨_, (pss_cut (ps_if (pt_not (pt_chain op_le op_lt pe_int (pv 1) (pe_callB call_len_seq (by rfl) T.free_len (by decide +kernel) (pa_cons (pv 0) pa_nil))))
   (pss_one (ps_ret pe_non))
   pss_nil)
  (pss_cons (ps_set (i := 2) sc_row_at.nd rfl (Or.inl rfl) (pe_ix ix_list (pv 0) (pv 1) (fun _ _ => rfl)))
  (pss_cons (ps_set (i := 3) sc_row_at.nd rfl (Or.inl rfl) (pe_c c_op_of hr (by decide) (by rfl) (pa_cons (pv 2) pa_nil)))
  (pss_cut (ps_if (PW.pt (pw_or (pt_cmpR op_isN (pv 3) pe_non (nomark _)) (pw_or1 (pt_cmpR op_gt (pe_op op_add (pv 1) (pe_c c_row_size hr (by decide) (by rfl) (pa_cons (pv 3) pa_nil))) (pe_callB call_len_seq (by rfl) T.free_len (by decide +kernel) (pa_cons (pv 0) pa_nil)) (nomark _)))))
   (pss_one (ps_ret pe_non))
   pss_nil)
  (pss_cons (ps_if (pt_cmpR op_eq (pv 3) pe_str (nomark _))
   (pss_one (ps_ret (pe_tup (pa_cons (pv 3) (pa_cons (pe_lst (pa_cons (pe_op op_fdiv (pe_op op_sub (pv 2) (pe_gI (by rfl) T.g_TAKE_FIRST)) (pe_gI (by rfl) T.g_TAKE_NUMBERS)) pa_nil)) (pa_cons (pe_lst (pa_cons (pe_op op_mod (pe_op op_sub (pv 2) (pe_gI (by rfl) T.g_TAKE_FIRST)) (pe_gI (by rfl) T.g_TAKE_NUMBERS)) pa_nil)) pa_nil))))))
   pss_nil)
  (pss_one (ps_ret (pe_tup (pa_cons (pv 3) (pa_cons (pe_c c_boxes_of hr (by decide) (by rfl) (pa_cons (pv 3) (pa_cons (pv 2) pa_nil))) (pa_cons (pe_slice sl_list (pv 0) (po_some (pe_op op_add (pv 1) pe_int)) (po_some (pe_op op_add (pv 1) (pe_c c_row_size hr (by decide) (by rfl) (pa_cons (pv 3) pa_nil))))) pa_nil))))))))))), ?_⟩
    refine ⟨fun σ' H' => σ' = start N_row_at [.ref a, .int p] ∧ H = H' ∧ (0 ≤ p ∧ p < (ws.length : Int)), ?_, ?_⟩
    · refine ⟨_, rfl, _, _, rfl, rfl, _, rfl, ?_⟩
      by_cases h1 : 0 ≤ p
      · rw [decide_eq_true h1]
        refine iteT ⟨_, rfl, a, _, rfl, .inl hS, _, _, rfl, rfl, _, rfl, ?_⟩
        rw [List.length_map]
        by_cases h2 : p < (ws.length : Int)
        · rw [decide_eq_true h2]
          exact iteF ⟨rfl, rfl, h1, h2⟩
        · rw [decide_eq_false h2]
          exact iteT (k0 (if_neg fun q => h2 q.2))
      · rw [decide_eq_false h1]
        exact iteF ⟨_, rfl, iteT (k0 (if_neg fun q => h1 q.1))⟩
    · rintro σ' H' ⟨rfl, rfl, hp⟩
      have er := rowAt_in hp
      refine ⟨_, rfl, _, rfl, a, _, _, _, rfl, rfl, hS, ints_atI hp.1 hp.2, ?_⟩
      generalize hw : ws.getD p.toNat 0 = n at er
      refine ⟨_, rfl, _, rfl, ?_⟩
      by_cases ht : 144 ≤ n ∧ n < 176
      · have eo : opOf n = some .take := if_pos ht
        rw [if_pos ht] at er
        rw [eo]
        dsimp only
        refine ⟨fun σ' H' => σ' = [some (.ref a), some (.int p), some (.int n), some (.str Kd.take.str)] ∧ H = H', ?_, ?_⟩
        · refine ⟨_, rfl, rfl, _, rfl, ?_⟩
          refine ite2 (fun q => absurd (of_decide_eq_true q) (by intro z; cases z)) (fun _ => ?_)
          refine ⟨_, rfl, _, rfl, .take, rfl, _, _, rfl, rfl, _, rfl, a, _, rfl, .inl hS, _, _, rfl, rfl, _, rfl, ?_⟩
          rw [List.length_map]
          have e : decide ((ws.length : Int) < p + ((rSize Kd.take : Nat) : Int)) = false := decide_eq_false (by have : rSize Kd.take = 1 := rfl; omega)
          rw [e]
          exact iteF ⟨rfl, rfl⟩
        · rintro σ' H' ⟨rfl, rfl⟩
          refine ⟨_, rfl, rfl, _, rfl, ?_⟩
          refine ite2 (fun _ => ?_) (fun q => absurd (decide_eq_true rfl) q)
          refine ⟨_, rfl, _, rfl, _, _, rfl, rfl, _, _, rfl, rfl, ⟨by decide, by decide⟩, (by show 1 ≤ sizeLine; decide), fun b hb => ?_⟩
          refine ⟨_, rfl, _, _, rfl, rfl, _, _, rfl, rfl, (by show (0 : Int) < 8; decide), (by show 1 ≤ sizeLine; decide), fun m hm => ?_⟩
          refine ⟨(by show 3 ≤ sizeLine; decide), fun t ht => ?_⟩
          have s1 := Same.new (o := .lst [V.int ((n - 144) / 8)]) hb
          have s2 := s1.add (o := .lst [V.int ((n - 144) % 8)]) hm
          have hbm : b ≠ m := ne_of_none upd_same hm
          have hbt : b ≠ t := ne_of_none (Same.new hm _ _ upd_same) ht
          have hmt : m ≠ t := ne_of_none upd_same ht
          refine k _ er _ t b m (s2.add ht) (s2.free ht) hb (s1.free hm) upd_same ?_ ?_
          · rw [upd_ne hbt, upd_ne hbm, upd_same]
            rfl
          · rw [upd_ne hmt, upd_same]
            rfl
      · have eo : opOf n = (findC codes n).map (·.1) := if_neg ht
        rw [if_neg ht] at er
        rw [eo]
        cases ef : findC codes n with
        | none =>
          rw [ef] at er
          dsimp only at er
          refine ⟨fun σ' H' => False, ?_, fun _ _ z => z.elim⟩
          refine ⟨_, rfl, rfl, _, rfl, ?_⟩
          exact iteT (k0 er)
        | some c =>
          rw [ef] at er
          dsimp only [Option.map] at er ⊢
          obtain ⟨cm, c1, c2⟩ := findC_mem ef
          obtain ⟨q1, q2, q3, q4⟩ := codes_ok c cm
          have es : rSize c.1 = 1 + c.2.2.2 := by
            unfold rSize
            rw [if_neg q3, q2]
          refine ⟨fun σ' H' => σ' = [some (.ref a), some (.int p), some (.int n), some (.str c.1.str)] ∧ H = H' ∧ ¬ (p + (1 + c.2.2.2 : Nat) > ws.length), ?_, ?_⟩
          · refine ⟨_, rfl, rfl, _, rfl, ?_⟩
            refine ite2 (fun q => absurd (of_decide_eq_true q) (by intro z; cases z)) (fun _ => ?_)
            refine ⟨_, rfl, _, rfl, c.1, rfl, _, _, rfl, rfl, _, rfl, a, _, rfl, .inl hS, _, _, rfl, rfl, _, rfl, ?_⟩
            rw [List.length_map, es]
            by_cases hlen : p + (1 + c.2.2.2 : Nat) > ws.length
            · rw [decide_eq_true hlen]
              rw [if_pos hlen] at er
              exact iteT (k0 er)
            · rw [decide_eq_false hlen]
              exact iteF ⟨rfl, rfl, hlen⟩
          · rintro σ' H' ⟨rfl, rfl, hlen⟩
            rw [if_neg hlen] at er
            refine ⟨_, rfl, rfl, _, rfl, ?_⟩
            refine ite2 (fun q => absurd (V.str.inj (of_decide_eq_true q)) (str_take _ q3)) (fun _ => ?_)
            refine ⟨_, rfl, _, rfl, _, rfl, c, n, rfl, cm, fun H1 b s1 hb hb1 => ?_⟩
            refine ⟨_, rfl, _, rfl, _, _, rfl, rfl, _, rfl, _, rfl, _, rfl, c.1, rfl, _, _, rfl, rfl, _, rfl, a, _, rfl, s1.seq hS, fun m hm => ?_⟩
            refine ⟨(by show 3 ≤ sizeLine; decide), fun t ht => ?_⟩
            have e1 : p + 1 = ((p.toNat + 1 : Nat) : Int) := by omega
            have e2 : p + ((rSize c.1 : Nat) : Int) = ((p.toNat + (1 + c.2.2.2) : Nat) : Int) := by omega
            have ec : cutV (il ws) (some (p + 1)) (some (p + ((rSize c.1 : Nat) : Int))) = il ((ws.drop (p.toNat + 1)).take c.2.2.2) := by
              rw [e1, e2, cut_il _ (by omega)]
              congr 2
              omega
            rw [ec] at ht ⊢
            have s2 := s1.add (o := .lst (il ((ws.drop (p.toNat + 1)).take c.2.2.2))) hm
            have hbm : b ≠ m := ne_of_none hb1 hm
            have hbt : b ≠ t := ne_of_none (Same.new hm _ _ hb1) ht
            have hmt : m ≠ t := ne_of_none upd_same ht
            refine k _ er _ t b m (s2.add ht) (s2.free ht) hb (s1.free hm) upd_same ?_ ?_
            · rw [upd_ne hbt, upd_ne hbm]
              exact hb1
            · rw [upd_ne hmt, upd_same]
end
end Rs
namespace Rs
open PySem PySem.Spec PyProof.Rows L2 C8
/-- where a machine's parts stand -/
structure Ad where
  x : Addr
  dx : Addr
  w : Addr
  c : Addr
  b : Addr
  k : Addr
  s : Addr
def mf (A : Ad) (pl : Int) (wy : Str) : List (Str × V) := [("words", .ref A.w), ("cells", .ref A.c), ("boxes", .ref A.b), ("calls", .ref A.k), ("says", .ref A.s), ("place", .int pl), ("why", .str wy)]
theorem mf_words (A : Ad) (pl : Int) (wy : Str) : (mf A pl wy).lookup ("words" : Str) = some (.ref A.w) := rfl
theorem mf_cells (A : Ad) (pl : Int) (wy : Str) : (mf A pl wy).lookup ("cells" : Str) = some (.ref A.c) := rfl
theorem mf_boxes (A : Ad) (pl : Int) (wy : Str) : (mf A pl wy).lookup ("boxes" : Str) = some (.ref A.b) := rfl
theorem mf_calls (A : Ad) (pl : Int) (wy : Str) : (mf A pl wy).lookup ("calls" : Str) = some (.ref A.k) := rfl
theorem mf_says (A : Ad) (pl : Int) (wy : Str) : (mf A pl wy).lookup ("says" : Str) = some (.ref A.s) := rfl
theorem mf_place (A : Ad) (pl : Int) (wy : Str) : (mf A pl wy).lookup ("place" : Str) = some (.int pl) := rfl
theorem mf_why (A : Ad) (pl : Int) (wy : Str) : (mf A pl wy).lookup ("why" : Str) = some (.str wy) := rfl
theorem put_place (A : Ad) (pl p2 : Int) (wy : Str) : putF "place" (.int p2) (mf A pl wy) = mf A p2 wy := rfl
theorem put_why (A : Ad) (pl : Int) (wy w2 : Str) : putF "why" (.str w2) (mf A pl wy) = mf A pl w2 := rfl
theorem mf_few (A : Ad) (pl : Int) (wy : Str) : (mf A pl wy).length < 1000 := by show 7 < 1000; decide
structure MAt (C : Addr) (H : Hp) (A : Ad) (ws : List Int) (m : M) : Prop where
  x : H A.x = some (.ins C A.dx (mf A m.place m.why))
  w : H A.w = some (.lst (il ws))
  c : H A.c = some (.lst (il m.cells))
  b : H A.b = some (.lst (il m.boxes))
  k : H A.k = some (.lst (il m.calls))
  s : H A.s = some (.lst (il m.says))
  nd : [A.w, A.c, A.b, A.k, A.s].Nodup
def Out (A : Ad) (H H' : Hp) : Prop := ∀ q, q ≠ A.x → q ≠ A.c → q ≠ A.b → q ≠ A.k → q ≠ A.s → H' q = H q
section
variable {C : Addr} {H : Hp} {A : Ad} {ws : List Int} {m : M}
theorem MAt.ne (h : MAt C H A ws m) : (A.w ≠ A.c ∧ A.w ≠ A.b ∧ A.w ≠ A.k ∧ A.w ≠ A.s) ∧ (A.c ≠ A.b ∧ A.c ≠ A.k ∧ A.c ≠ A.s) ∧ (A.b ≠ A.k ∧ A.b ≠ A.s) ∧ A.k ≠ A.s := by
  have := h.nd
  simp only [List.nodup_cons, List.mem_cons, List.not_mem_nil, or_false, not_or] at this
  obtain ⟨⟨a1, a2, a3, a4⟩, ⟨b1, b2, b3⟩, ⟨c1, c2⟩, d1, _⟩ := this
  exact ⟨⟨a1, a2, a3, a4⟩, ⟨b1, b2, b3⟩, ⟨c1, c2⟩, d1⟩
theorem MAt.nx (h : MAt C H A ws m) : A.x ≠ A.w ∧ A.x ≠ A.c ∧ A.x ≠ A.b ∧ A.x ≠ A.k ∧ A.x ≠ A.s :=
  ⟨ne_of h.x h.w (by intro q; cases q), ne_of h.x h.c (by intro q; cases q), ne_of h.x h.b (by intro q; cases q), ne_of h.x h.k (by intro q; cases q), ne_of h.x h.s (by intro q; cases q)⟩
theorem MAt.setX (h : MAt C H A ws m) (p : Int) (y : Str) : MAt C (upd H A.x (.ins C A.dx (mf A p y))) A ws { m with place := p, why := y } := by
  obtain ⟨n1, n2, n3, n4, n5⟩ := h.nx
  exact ⟨upd_same, (upd_ne n1.symm).trans h.w, (upd_ne n2.symm).trans h.c, (upd_ne n3.symm).trans h.b, (upd_ne n4.symm).trans h.k, (upd_ne n5.symm).trans h.s, h.nd⟩
theorem MAt.setC (h : MAt C H A ws m) (l : List Int) : MAt C (upd H A.c (.lst (il l))) A ws { m with cells := l } := by
  obtain ⟨n1, n2, n3, n4, n5⟩ := h.nx
  obtain ⟨⟨a1, a2, a3, a4⟩, ⟨b1, b2, b3⟩, ⟨c1, c2⟩, d1⟩ := h.ne
  exact ⟨(upd_ne n2).trans h.x, (upd_ne a1).trans h.w, upd_same, (upd_ne b1.symm).trans h.b, (upd_ne b2.symm).trans h.k, (upd_ne b3.symm).trans h.s, h.nd⟩
theorem MAt.setB (h : MAt C H A ws m) (l : List Int) : MAt C (upd H A.b (.lst (il l))) A ws { m with boxes := l } := by
  obtain ⟨n1, n2, n3, n4, n5⟩ := h.nx
  obtain ⟨⟨a1, a2, a3, a4⟩, ⟨b1, b2, b3⟩, ⟨c1, c2⟩, d1⟩ := h.ne
  exact ⟨(upd_ne n3).trans h.x, (upd_ne a2).trans h.w, (upd_ne b1).trans h.c, upd_same, (upd_ne c1.symm).trans h.k, (upd_ne c2.symm).trans h.s, h.nd⟩
theorem MAt.setK (h : MAt C H A ws m) (l : List Int) : MAt C (upd H A.k (.lst (il l))) A ws { m with calls := l } := by
  obtain ⟨n1, n2, n3, n4, n5⟩ := h.nx
  obtain ⟨⟨a1, a2, a3, a4⟩, ⟨b1, b2, b3⟩, ⟨c1, c2⟩, d1⟩ := h.ne
  exact ⟨(upd_ne n4).trans h.x, (upd_ne a3).trans h.w, (upd_ne b2).trans h.c, (upd_ne c1).trans h.b, upd_same, (upd_ne d1.symm).trans h.s, h.nd⟩
theorem MAt.setS (h : MAt C H A ws m) (l : List Int) : MAt C (upd H A.s (.lst (il l))) A ws { m with says := l } := by
  obtain ⟨n1, n2, n3, n4, n5⟩ := h.nx
  obtain ⟨⟨a1, a2, a3, a4⟩, ⟨b1, b2, b3⟩, ⟨c1, c2⟩, d1⟩ := h.ne
  exact ⟨(upd_ne n5).trans h.x, (upd_ne a4).trans h.w, (upd_ne b3).trans h.c, (upd_ne c2).trans h.b, (upd_ne d1).trans h.k, upd_same, h.nd⟩
end
theorem Out.refl (A : Ad) (H : Hp) : Out A H H := fun _ _ _ _ _ _ => rfl
theorem Out.x {A : Ad} {H H' : Hp} (h : Out A H H') (o : HO) : Out A H (upd H' A.x o) := fun q n1 n2 n3 n4 n5 => (upd_ne n1).trans (h q n1 n2 n3 n4 n5)
theorem Out.c {A : Ad} {H H' : Hp} (h : Out A H H') (o : HO) : Out A H (upd H' A.c o) := fun q n1 n2 n3 n4 n5 => (upd_ne n2).trans (h q n1 n2 n3 n4 n5)
theorem Out.b {A : Ad} {H H' : Hp} (h : Out A H H') (o : HO) : Out A H (upd H' A.b o) := fun q n1 n2 n3 n4 n5 => (upd_ne n3).trans (h q n1 n2 n3 n4 n5)
theorem Out.k {A : Ad} {H H' : Hp} (h : Out A H H') (o : HO) : Out A H (upd H' A.k o) := fun q n1 n2 n3 n4 n5 => (upd_ne n4).trans (h q n1 n2 n3 n4 n5)
theorem Out.s {A : Ad} {H H' : Hp} (h : Out A H H') (o : HO) : Out A H (upd H' A.s o) := fun q n1 n2 n3 n4 n5 => (upd_ne n5).trans (h q n1 n2 n3 n4 n5)
theorem Out.trans {A : Ad} {H H1 H2 : Hp} (h : Out A H H1) (k : Out A H1 H2) : Out A H H2 := fun q n1 n2 n3 n4 n5 => (k q n1 n2 n3 n4 n5).trans (h q n1 n2 n3 n4 n5)
/-- the class -/
structure TxtM (K : PySem.W.Frag) (mg : Str → Option Value) (C : Addr) : Prop where
  cl : Cls K C
  words : NoAttr K C "words"
  cells : NoAttr K C "cells"
  boxes : NoAttr K C "boxes"
  calls : NoAttr K C "calls"
  says : NoAttr K C "says"
  place : NoAttr K C "place"
  why : NoAttr K C "why"
def spDo (C : Addr) (k : Kd) : Sp := fun vs H Q _ => ∃ (A : Ad) (ws : List Int) (m : M) (bx nm : List Int) (b n : Addr), vs = [.ref A.x, .ref b, .ref n] ∧ MAt C H A ws m ∧ Good m ∧ H b = some (.lst (il bx)) ∧ H n = some (.lst (il nm)) ∧
  (bx.length = nBox k ∧ nm.length = nNum k ∧ (∀ x ∈ bx, 0 ≤ x ∧ x < 4) ∧ Bytes nm) ∧ m.says.length ≤ 1001 ∧ n ≠ A.k ∧ ∀ H', MAt C H' A ws (doK k bx nm m) → Out A H H' → Q .non H'
theorem one_of {p : Int → Prop} {l : List Int} (h : l.length = 1) (hp : ∀ x ∈ l, p x) : ∃ a, l = [a] ∧ p a := by
  match l, h with
  | [a], _ => exact ⟨a, rfl, hp a (by simp)⟩
theorem two_of {p : Int → Prop} {l : List Int} (h : l.length = 2) (hp : ∀ x ∈ l, p x) : ∃ a b, l = [a, b] ∧ p a ∧ p b := by
  match l, h with
  | [a, b], _ => exact ⟨a, b, rfl, hp a (by simp), hp b (by simp)⟩
theorem ixN_in {n : Nat} {i : Int} (h0 : 0 ≤ i) (h1 : i < (n : Int)) : ixN n i = some i.toNat := by
  unfold ixN
  rw [if_pos h0, if_pos h1]
theorem il_set (l : List Int) (j : Nat) (v : Int) : (il l).set j (V.int v) = il (l.set j v) := (List.map_set (f := V.int)).symm
theorem il_app (l : List Int) (v : Int) : il l ++ [V.int v] = il (l ++ [v]) := by simp [il]
section
variable {P : Program} {w : World} {K : PySem.W.Frag} {mg : Str → Option Value} {base : Heap} {C : Addr}
theorem ok_do_stop (D : DefAt K mg "do_stop" sD_do_stop) (T : Txt w K mg) (M' : TxtM K mg C) : Cal P w K mg base 1 "do_stop" (spDo C .stop) [] := by
  refine cal_of D sc_do_stop (fun _ _ _ _ _ _ us hl => match us, hl with | [_, _, _], _ => rfl) (fun vs H Q E h => ?_) (fun cdv Ar outer s H vs Q E hr h => ?_)
  · obtain ⟨A, ws, m, bx, nm, b, n, rfl, _⟩ := h
    rfl
  · obtain ⟨A, ws, m, bx, nm, b, n, rfl, hm, g, hb, hn, ⟨h1, h2, h3, h4⟩, hs, hnk, k⟩ := h
    have gb := g.b
    have gc := g.c
    refine ⟨_, (pss_one (ps_fld (pv 0) pe_str rfl)), ?_⟩
    refine ⟨_, rfl, A.x, C, A.dx, _, rfl, hm.x, M'.cl, M'.why, mf_few _ _ _, ?_⟩
    rw [put_why]
    exact k _ (hm.setX m.place "stop") ((Out.refl A H).x _)

theorem ok_do_back (D : DefAt K mg "do_back" sD_do_back) (T : Txt w K mg) (M' : TxtM K mg C) : Cal P w K mg base 1 "do_back" (spDo C .back) [] := by
  refine cal_of D sc_do_back (fun _ _ _ _ _ _ us hl => match us, hl with | [_, _, _], _ => rfl) (fun vs H Q E h => ?_) (fun cdv Ar outer s H vs Q E hr h => ?_)
  · obtain ⟨A, ws, m, bx, nm, b, n, rfl, _⟩ := h
    rfl
  · obtain ⟨A, ws, m, bx, nm, b, n, rfl, hm, g, hb, hn, ⟨h1, h2, h3, h4⟩, hs, hnk, k⟩ := h
    have gb := g.b
    have gc := g.c
    refine ⟨_, (pss_one (ps_if (pt_truth (pe_fld (pv 0) rfl) (by intro _; rfl))
   (pss_one (ps_fld (pv 0) (pe_bm0 PySem.F.plainAttrs_list PySem.F.slot_list_pop PySem.F.type_list_pop mt_pop (pe_fld (pv 0) rfl)) rfl))
   (pss_one (ps_fld (pv 0) pe_str rfl)))), ?_⟩
    refine ⟨_, rfl, A.x, C, A.dx, _, _, rfl, hm.x, M'.cl, M'.calls, mf_calls _ _ _, _, .inl ⟨_, SqL.of hm.k, rfl⟩, ?_⟩
    by_cases hc : m.calls = []
    · have e : doK .back bx nm m = { m with why := "back" } := if_pos hc
      rw [e] at k
      rw [hc]
      refine iteF ⟨_, rfl, A.x, C, A.dx, _, rfl, hm.x, M'.cl, M'.why, mf_few _ _ _, ?_⟩
      rw [put_why]
      exact k _ (hm.setX m.place "back") ((Out.refl A H).x _)
    · have e : doK .back bx nm m = { m with place := m.calls.getLastD 0, calls := m.calls.dropLast } := if_neg hc
      rw [e] at k
      have ei : (il m.calls).isEmpty = false := by
        cases hl : m.calls with
        | nil => exact absurd hl hc
        | cons a r => rfl
      rw [ei]
      have e1 : (il m.calls)[(il m.calls).length - 1]? = some (V.int (m.calls.getLastD 0)) := by
        have hl : m.calls.length - 1 < m.calls.length := by
          have := List.length_pos_iff.mpr hc
          omega
        rw [List.length_map, List.getElem?_map, List.getElem?_eq_getElem hl, List.getLastD_eq_getLast?, List.getLast?_eq_getElem?, List.getElem?_eq_getElem hl]
        rfl
      have e2 : (il m.calls).dropLast = il m.calls.dropLast := (List.map_dropLast ..).symm
      refine iteT ⟨_, rfl, A.x, C, A.dx, _, _, rfl, hm.x, M'.cl, M'.calls, mf_calls _ _ _, .inl ⟨rfl, _, SqL.of hm.k⟩, A.k, _, _, rfl, rfl, hm.k, e1, ?_⟩
      rw [e2]
      have hm2 := hm.setK m.calls.dropLast
      refine ⟨_, rfl, A.x, C, A.dx, _, rfl, hm2.x, M'.cl, M'.place, mf_few _ _ _, ?_⟩
      rw [put_place]
      exact k _ (hm2.setX _ _) (((Out.refl A H).k _).x _)

theorem ok_do_say (D : DefAt K mg "do_say" sD_do_say) (T : Txt w K mg) (M' : TxtM K mg C) : Cal P w K mg base 1 "do_say" (spDo C .say) [] := by
  refine cal_of D sc_do_say (fun _ _ _ _ _ _ us hl => match us, hl with | [_, _, _], _ => rfl) (fun vs H Q E h => ?_) (fun cdv Ar outer s H vs Q E hr h => ?_)
  · obtain ⟨A, ws, m, bx, nm, b, n, rfl, _⟩ := h
    rfl
  · obtain ⟨A, ws, m, bx, nm, b, n, rfl, hm, g, hb, hn, ⟨h1, h2, h3, h4⟩, hs, hnk, k⟩ := h
    obtain ⟨b0, rfl, hb0⟩ := one_of h1 h3
    have gb := g.b
    have gc := g.c
    refine ⟨_, (pss_one (ps_expr (pe_bm PySem.F.plainAttrs_list PySem.F.slot_list_append PySem.F.type_list_append mt_append (pe_fld (pv 0) rfl) (pa_cons (pe_ix ix_list (pe_fld (pv 0) rfl) (pe_ix ix_list (pv 1) pe_int (fun _ _ => rfl)) (fun _ _ => rfl)) pa_nil)))), ?_⟩
    refine ⟨_, rfl, A.x, C, A.dx, _, _, rfl, hm.x, M'.cl, M'.says, mf_says _ _ _, .inl ⟨rfl, _, SqL.of hm.s⟩, _, rfl, A.x, C, A.dx, _, _, rfl, hm.x, M'.cl, M'.boxes, mf_boxes _ _ _, _, rfl, b, _, _, _, rfl, rfl, SqL.of hb, atI_nat (j := 0) rfl, A.b, _, _, _, rfl, rfl, SqL.of hm.b, ints_atI hb0.1 (by omega), A.s, _, _, rfl, rfl, hm.s, ?_, ?_⟩
    · rw [List.length_map]
      exact Nat.lt_of_le_of_lt hs (by decide)
    · rw [il_app]
      exact k _ (hm.setS _) ((Out.refl A H).s _)

theorem ok_do_take_takeL (D : DefAt K mg "do_take" sD_do_take) (T : Txt w K mg) (M' : TxtM K mg C) : Cal P w K mg base 1 "do_take" (spDo C .takeL) [] := by
  refine cal_of D sc_do_take (fun _ _ _ _ _ _ us hl => match us, hl with | [_, _, _], _ => rfl) (fun vs H Q E h => ?_) (fun cdv Ar outer s H vs Q E hr h => ?_)
  · obtain ⟨A, ws, m, bx, nm, b, n, rfl, _⟩ := h
    rfl
  · obtain ⟨A, ws, m, bx, nm, b, n, rfl, hm, g, hb, hn, ⟨h1, h2, h3, h4⟩, hs, hnk, k⟩ := h
    obtain ⟨b0, rfl, hb0⟩ := one_of h1 h3
    obtain ⟨n0, rfl, hn0⟩ := one_of h2 h4
    have gb := g.b
    have gc := g.c
    refine ⟨_, (pss_one (ps_asg (pe_ix ix_list (pv 2) pe_int (fun _ _ => rfl)) (pg_sub (pe_fld (pv 0) rfl) (pe_ix ix_list (pv 1) pe_int (fun _ _ => rfl)) set_list))), ?_⟩
    refine ⟨_, rfl, n, _, _, _, rfl, rfl, SqL.of hn, atI_nat (j := 0) rfl, _, rfl, A.x, C, A.dx, _, _, rfl, hm.x, M'.cl, M'.boxes, mf_boxes _ _ _, _, rfl, b, _, _, _, rfl, rfl, SqL.of hb, atI_nat (j := 0) rfl, A.b, _, _, _, rfl, rfl, hm.b, ixN_in hb0.1 (by rw [List.length_map]; omega), ?_⟩
    rw [il_set]
    exact k _ (hm.setB _) ((Out.refl A H).b _)

theorem ok_do_take_take (D : DefAt K mg "do_take" sD_do_take) (T : Txt w K mg) (M' : TxtM K mg C) : Cal P w K mg base 1 "do_take" (spDo C .take) [] := by
  refine cal_of D sc_do_take (fun _ _ _ _ _ _ us hl => match us, hl with | [_, _, _], _ => rfl) (fun vs H Q E h => ?_) (fun cdv Ar outer s H vs Q E hr h => ?_)
  · obtain ⟨A, ws, m, bx, nm, b, n, rfl, _⟩ := h
    rfl
  · obtain ⟨A, ws, m, bx, nm, b, n, rfl, hm, g, hb, hn, ⟨h1, h2, h3, h4⟩, hs, hnk, k⟩ := h
    obtain ⟨b0, rfl, hb0⟩ := one_of h1 h3
    obtain ⟨n0, rfl, hn0⟩ := one_of h2 h4
    have gb := g.b
    have gc := g.c
    refine ⟨_, (pss_one (ps_asg (pe_ix ix_list (pv 2) pe_int (fun _ _ => rfl)) (pg_sub (pe_fld (pv 0) rfl) (pe_ix ix_list (pv 1) pe_int (fun _ _ => rfl)) set_list))), ?_⟩
    refine ⟨_, rfl, n, _, _, _, rfl, rfl, SqL.of hn, atI_nat (j := 0) rfl, _, rfl, A.x, C, A.dx, _, _, rfl, hm.x, M'.cl, M'.boxes, mf_boxes _ _ _, _, rfl, b, _, _, _, rfl, rfl, SqL.of hb, atI_nat (j := 0) rfl, A.b, _, _, _, rfl, rfl, hm.b, ixN_in hb0.1 (by rw [List.length_map]; omega), ?_⟩
    rw [il_set]
    exact k _ (hm.setB _) ((Out.refl A H).b _)

theorem ok_do_move (D : DefAt K mg "do_move" sD_do_move) (T : Txt w K mg) (M' : TxtM K mg C) : Cal P w K mg base 1 "do_move" (spDo C .move) [] := by
  refine cal_of D sc_do_move (fun _ _ _ _ _ _ us hl => match us, hl with | [_, _, _], _ => rfl) (fun vs H Q E h => ?_) (fun cdv Ar outer s H vs Q E hr h => ?_)
  · obtain ⟨A, ws, m, bx, nm, b, n, rfl, _⟩ := h
    rfl
  · obtain ⟨A, ws, m, bx, nm, b, n, rfl, hm, g, hb, hn, ⟨h1, h2, h3, h4⟩, hs, hnk, k⟩ := h
    obtain ⟨b0, b1, rfl, hb0, hb1⟩ := two_of h1 h3
    have gb := g.b
    have gc := g.c
    refine ⟨_, (pss_one (ps_asg (pe_ix ix_list (pe_fld (pv 0) rfl) (pe_ix ix_list (pv 1) pe_int (fun _ _ => rfl)) (fun _ _ => rfl)) (pg_sub (pe_fld (pv 0) rfl) (pe_ix ix_list (pv 1) pe_int (fun _ _ => rfl)) set_list))), ?_⟩
    refine ⟨_, rfl, A.x, C, A.dx, _, _, rfl, hm.x, M'.cl, M'.boxes, mf_boxes _ _ _, _, rfl, b, _, _, _, rfl, rfl, SqL.of hb, atI_nat (j := 1) rfl, A.b, _, _, _, rfl, rfl, SqL.of hm.b, ints_atI hb1.1 (by omega), _, rfl, A.x, C, A.dx, _, _, rfl, hm.x, M'.cl, M'.boxes, mf_boxes _ _ _, _, rfl, b, _, _, _, rfl, rfl, SqL.of hb, atI_nat (j := 0) rfl, A.b, _, _, _, rfl, rfl, hm.b, ixN_in hb0.1 (by rw [List.length_map]; omega), ?_⟩
    rw [il_set]
    exact k _ (hm.setB _) ((Out.refl A H).b _)

theorem ok_do_add (D : DefAt K mg "do_add" sD_do_add) (T : Txt w K mg) (M' : TxtM K mg C) : Cal P w K mg base 1 "do_add" (spDo C .add) [] := by
  refine cal_of D sc_do_add (fun _ _ _ _ _ _ us hl => match us, hl with | [_, _, _], _ => rfl) (fun vs H Q E h => ?_) (fun cdv Ar outer s H vs Q E hr h => ?_)
  · obtain ⟨A, ws, m, bx, nm, b, n, rfl, _⟩ := h
    rfl
  · obtain ⟨A, ws, m, bx, nm, b, n, rfl, hm, g, hb, hn, ⟨h1, h2, h3, h4⟩, hs, hnk, k⟩ := h
    obtain ⟨b0, b1, rfl, hb0, hb1⟩ := two_of h1 h3
    have gb := g.b
    have gc := g.c
    refine ⟨_, (pss_one (ps_asg (pe_op op_mod (pe_op op_add (pe_ix ix_list (pe_fld (pv 0) rfl) (pe_ix ix_list (pv 1) pe_int (fun _ _ => rfl)) (fun _ _ => rfl)) (pe_ix ix_list (pe_fld (pv 0) rfl) (pe_ix ix_list (pv 1) pe_int (fun _ _ => rfl)) (fun _ _ => rfl))) pe_int) (pg_sub (pe_fld (pv 0) rfl) (pe_ix ix_list (pv 1) pe_int (fun _ _ => rfl)) set_list))), ?_⟩
    refine ⟨_, rfl, A.x, C, A.dx, _, _, rfl, hm.x, M'.cl, M'.boxes, mf_boxes _ _ _, _, rfl, b, _, _, _, rfl, rfl, SqL.of hb, atI_nat (j := 0) rfl, A.b, _, _, _, rfl, rfl, SqL.of hm.b, ints_atI hb0.1 (by omega), _, rfl, A.x, C, A.dx, _, _, rfl, hm.x, M'.cl, M'.boxes, mf_boxes _ _ _, _, rfl, b, _, _, _, rfl, rfl, SqL.of hb, atI_nat (j := 1) rfl, A.b, _, _, _, rfl, rfl, SqL.of hm.b, ints_atI hb1.1 (by omega), _, _, rfl, rfl, _, _, rfl, rfl, (by show (0 : Int) < 256; decide), _, rfl, A.x, C, A.dx, _, _, rfl, hm.x, M'.cl, M'.boxes, mf_boxes _ _ _, _, rfl, b, _, _, _, rfl, rfl, SqL.of hb, atI_nat (j := 0) rfl, A.b, _, _, _, rfl, rfl, hm.b, ixN_in hb0.1 (by rw [List.length_map]; omega), ?_⟩
    rw [il_set]
    exact k _ (hm.setB _) ((Out.refl A H).b _)

theorem ok_do_less (D : DefAt K mg "do_less" sD_do_less) (T : Txt w K mg) (M' : TxtM K mg C) : Cal P w K mg base 1 "do_less" (spDo C .less) [] := by
  refine cal_of D sc_do_less (fun _ _ _ _ _ _ us hl => match us, hl with | [_, _, _], _ => rfl) (fun vs H Q E h => ?_) (fun cdv Ar outer s H vs Q E hr h => ?_)
  · obtain ⟨A, ws, m, bx, nm, b, n, rfl, _⟩ := h
    rfl
  · obtain ⟨A, ws, m, bx, nm, b, n, rfl, hm, g, hb, hn, ⟨h1, h2, h3, h4⟩, hs, hnk, k⟩ := h
    obtain ⟨b0, b1, rfl, hb0, hb1⟩ := two_of h1 h3
    have gb := g.b
    have gc := g.c
    refine ⟨_, (pss_one (ps_asg (pe_op op_mod (pe_op op_sub (pe_ix ix_list (pe_fld (pv 0) rfl) (pe_ix ix_list (pv 1) pe_int (fun _ _ => rfl)) (fun _ _ => rfl)) (pe_ix ix_list (pe_fld (pv 0) rfl) (pe_ix ix_list (pv 1) pe_int (fun _ _ => rfl)) (fun _ _ => rfl))) pe_int) (pg_sub (pe_fld (pv 0) rfl) (pe_ix ix_list (pv 1) pe_int (fun _ _ => rfl)) set_list))), ?_⟩
    refine ⟨_, rfl, A.x, C, A.dx, _, _, rfl, hm.x, M'.cl, M'.boxes, mf_boxes _ _ _, _, rfl, b, _, _, _, rfl, rfl, SqL.of hb, atI_nat (j := 0) rfl, A.b, _, _, _, rfl, rfl, SqL.of hm.b, ints_atI hb0.1 (by omega), _, rfl, A.x, C, A.dx, _, _, rfl, hm.x, M'.cl, M'.boxes, mf_boxes _ _ _, _, rfl, b, _, _, _, rfl, rfl, SqL.of hb, atI_nat (j := 1) rfl, A.b, _, _, _, rfl, rfl, SqL.of hm.b, ints_atI hb1.1 (by omega), _, _, rfl, rfl, _, _, rfl, rfl, (by show (0 : Int) < 256; decide), _, rfl, A.x, C, A.dx, _, _, rfl, hm.x, M'.cl, M'.boxes, mf_boxes _ _ _, _, rfl, b, _, _, _, rfl, rfl, SqL.of hb, atI_nat (j := 0) rfl, A.b, _, _, _, rfl, rfl, hm.b, ixN_in hb0.1 (by rw [List.length_map]; omega), ?_⟩
    rw [il_set]
    exact k _ (hm.setB _) ((Out.refl A H).b _)

theorem ok_do_load (D : DefAt K mg "do_load" sD_do_load) (T : Txt w K mg) (M' : TxtM K mg C) : Cal P w K mg base 1 "do_load" (spDo C .load) [] := by
  refine cal_of D sc_do_load (fun _ _ _ _ _ _ us hl => match us, hl with | [_, _, _], _ => rfl) (fun vs H Q E h => ?_) (fun cdv Ar outer s H vs Q E hr h => ?_)
  · obtain ⟨A, ws, m, bx, nm, b, n, rfl, _⟩ := h
    rfl
  · obtain ⟨A, ws, m, bx, nm, b, n, rfl, hm, g, hb, hn, ⟨h1, h2, h3, h4⟩, hs, hnk, k⟩ := h
    obtain ⟨b0, rfl, hb0⟩ := one_of h1 h3
    obtain ⟨n0, rfl, hn0⟩ := one_of h2 h4
    have gb := g.b
    have gc := g.c
    refine ⟨_, (pss_one (ps_asg (pe_ix ix_list (pe_fld (pv 0) rfl) (pe_ix ix_list (pv 2) pe_int (fun _ _ => rfl)) (fun _ _ => rfl)) (pg_sub (pe_fld (pv 0) rfl) (pe_ix ix_list (pv 1) pe_int (fun _ _ => rfl)) set_list))), ?_⟩
    refine ⟨_, rfl, A.x, C, A.dx, _, _, rfl, hm.x, M'.cl, M'.cells, mf_cells _ _ _, _, rfl, n, _, _, _, rfl, rfl, SqL.of hn, atI_nat (j := 0) rfl, A.c, _, _, _, rfl, rfl, SqL.of hm.c, ints_atI hn0.1 (by have := hn0.2; omega), _, rfl, A.x, C, A.dx, _, _, rfl, hm.x, M'.cl, M'.boxes, mf_boxes _ _ _, _, rfl, b, _, _, _, rfl, rfl, SqL.of hb, atI_nat (j := 0) rfl, A.b, _, _, _, rfl, rfl, hm.b, ixN_in hb0.1 (by rw [List.length_map]; omega), ?_⟩
    rw [il_set]
    exact k _ (hm.setB _) ((Out.refl A H).b _)

theorem ok_do_store (D : DefAt K mg "do_store" sD_do_store) (T : Txt w K mg) (M' : TxtM K mg C) : Cal P w K mg base 1 "do_store" (spDo C .store) [] := by
  refine cal_of D sc_do_store (fun _ _ _ _ _ _ us hl => match us, hl with | [_, _, _], _ => rfl) (fun vs H Q E h => ?_) (fun cdv Ar outer s H vs Q E hr h => ?_)
  · obtain ⟨A, ws, m, bx, nm, b, n, rfl, _⟩ := h
    rfl
  · obtain ⟨A, ws, m, bx, nm, b, n, rfl, hm, g, hb, hn, ⟨h1, h2, h3, h4⟩, hs, hnk, k⟩ := h
    obtain ⟨b0, rfl, hb0⟩ := one_of h1 h3
    obtain ⟨n0, rfl, hn0⟩ := one_of h2 h4
    have gb := g.b
    have gc := g.c
    refine ⟨_, (pss_one (ps_asg (pe_ix ix_list (pe_fld (pv 0) rfl) (pe_ix ix_list (pv 1) pe_int (fun _ _ => rfl)) (fun _ _ => rfl)) (pg_sub (pe_fld (pv 0) rfl) (pe_ix ix_list (pv 2) pe_int (fun _ _ => rfl)) set_list))), ?_⟩
    refine ⟨_, rfl, A.x, C, A.dx, _, _, rfl, hm.x, M'.cl, M'.boxes, mf_boxes _ _ _, _, rfl, b, _, _, _, rfl, rfl, SqL.of hb, atI_nat (j := 0) rfl, A.b, _, _, _, rfl, rfl, SqL.of hm.b, ints_atI hb0.1 (by omega), _, rfl, A.x, C, A.dx, _, _, rfl, hm.x, M'.cl, M'.cells, mf_cells _ _ _, _, rfl, n, _, _, _, rfl, rfl, SqL.of hn, atI_nat (j := 0) rfl, A.c, _, _, _, rfl, rfl, hm.c, ixN_in hn0.1 (by rw [List.length_map]; have := hn0.2; omega), ?_⟩
    rw [il_set]
    exact k _ (hm.setC _) ((Out.refl A H).c _)

theorem ok_do_jump (D : DefAt K mg "do_jump" sD_do_jump) (T : Txt w K mg) (M' : TxtM K mg C) : Cal P w K mg base 1 "do_jump" (spDo C .jump) [] := by
  refine cal_of D sc_do_jump (fun _ _ _ _ _ _ us hl => match us, hl with | [_, _, _], _ => rfl) (fun vs H Q E h => ?_) (fun cdv Ar outer s H vs Q E hr h => ?_)
  · obtain ⟨A, ws, m, bx, nm, b, n, rfl, _⟩ := h
    rfl
  · obtain ⟨A, ws, m, bx, nm, b, n, rfl, hm, g, hb, hn, ⟨h1, h2, h3, h4⟩, hs, hnk, k⟩ := h
    obtain ⟨n0, rfl, hn0⟩ := one_of h2 h4
    have gb := g.b
    have gc := g.c
    refine ⟨_, (pss_one (ps_fld (pv 0) (pe_ix ix_list (pv 2) pe_int (fun _ _ => rfl)) rfl)), ?_⟩
    refine ⟨_, rfl, n, _, _, _, rfl, rfl, SqL.of hn, atI_nat (j := 0) rfl, _, rfl, A.x, C, A.dx, _, rfl, hm.x, M'.cl, M'.place, mf_few _ _ _, ?_⟩
    rw [put_place]
    exact k _ (hm.setX n0 m.why) ((Out.refl A H).x _)

theorem ok_do_call (D : DefAt K mg "do_call" sD_do_call) (T : Txt w K mg) (M' : TxtM K mg C) : Cal P w K mg base 1 "do_call" (spDo C .call) [] := by
  refine cal_of D sc_do_call (fun _ _ _ _ _ _ us hl => match us, hl with | [_, _, _], _ => rfl) (fun vs H Q E h => ?_) (fun cdv Ar outer s H vs Q E hr h => ?_)
  · obtain ⟨A, ws, m, bx, nm, b, n, rfl, _⟩ := h
    rfl
  · obtain ⟨A, ws, m, bx, nm, b, n, rfl, hm, g, hb, hn, ⟨h1, h2, h3, h4⟩, hs, hnk, k⟩ := h
    obtain ⟨n0, rfl, hn0⟩ := one_of h2 h4
    have gb := g.b
    have gc := g.c
    refine ⟨_, (pss_one (ps_if (pt_cmpR op_eq (pe_callB call_len_seq (by rfl) T.free_len (by decide +kernel) (pa_cons (pe_fld (pv 0) rfl) pa_nil)) (pe_gI (by rfl) T.g_CALLS_MOST) (nomark _))
   (pss_one (ps_fld (pv 0) pe_str rfl))
   (pss_cons (ps_expr (pe_bm PySem.F.plainAttrs_list PySem.F.slot_list_append PySem.F.type_list_append mt_append (pe_fld (pv 0) rfl) (pa_cons (pe_fld (pv 0) rfl) pa_nil)))
  (pss_one (ps_fld (pv 0) (pe_ix ix_list (pv 2) pe_int (fun _ _ => rfl)) rfl))))), ?_⟩
    refine ⟨_, rfl, A.x, C, A.dx, _, _, rfl, hm.x, M'.cl, M'.calls, mf_calls _ _ _, A.k, _, rfl, .inl (SqL.of hm.k), rfl, _, rfl, ?_⟩
    by_cases hc : m.calls.length = 16
    · have e : doK .call bx [n0] m = { m with why := "deep" } := if_pos hc
      rw [e] at k
      have e1 : decide (V.int (((il m.calls).length : Nat) : Int) = V.int 16) = true := decide_eq_true (by rw [List.length_map, hc] <;> rfl)
      rw [e1]
      refine iteT ⟨_, rfl, A.x, C, A.dx, _, rfl, hm.x, M'.cl, M'.why, mf_few _ _ _, ?_⟩
      rw [put_why]
      exact k _ (hm.setX m.place "deep") ((Out.refl A H).x _)
    · have e : doK .call bx [n0] m = { m with calls := m.calls ++ [m.place], place := n0 } := if_neg hc
      rw [e] at k
      have e1 : decide (V.int (((il m.calls).length : Nat) : Int) = V.int 16) = false := decide_eq_false (fun q => by
        have q2 := V.int.inj q
        rw [List.length_map] at q2
        omega)
      rw [e1]
      refine iteF ⟨_, rfl, A.x, C, A.dx, _, _, rfl, hm.x, M'.cl, M'.calls, mf_calls _ _ _, .inl ⟨rfl, _, SqL.of hm.k⟩, _, rfl, A.x, C, A.dx, _, _, rfl, hm.x, M'.cl, M'.place, mf_place _ _ _, A.k, _, _, rfl, rfl, hm.k, ?_, ?_⟩
      · rw [List.length_map]
        exact Nat.lt_of_le_of_lt g.k (by decide)
      · rw [il_app]
        have hm2 := hm.setK (m.calls ++ [m.place])
        have hn2 : upd H A.k (HO.lst (il (m.calls ++ [m.place]))) n = some (.lst (il [n0])) := ?_
        refine ⟨_, rfl, n, _, _, _, rfl, rfl, SqL.of hn2, atI_nat (j := 0) rfl, _, rfl, A.x, C, A.dx, _, rfl, hm2.x, M'.cl, M'.place, mf_few _ _ _, ?_⟩
        rw [put_place]
        exact k _ (hm2.setX _ _) (((Out.refl A H).k _).x _)
        rw [upd_ne hnk]
        exact hn

theorem ok_do_skip (D : DefAt K mg "do_skip" sD_do_skip) (T : Txt w K mg) (M' : TxtM K mg C) (c_signed : Cal P w K mg base 1 "signed" spSigned []) : Cal P w K mg base 2 "do_skip" (spDo C .skip) [] := by
  refine cal_of D sc_do_skip (fun _ _ _ _ _ _ us hl => match us, hl with | [_, _, _], _ => rfl) (fun vs H Q E h => ?_) (fun cdv Ar outer s H vs Q E hr h => ?_)
  · obtain ⟨A, ws, m, bx, nm, b, n, rfl, _⟩ := h
    rfl
  · obtain ⟨A, ws, m, bx, nm, b, n, rfl, hm, g, hb, hn, ⟨h1, h2, h3, h4⟩, hs, hnk, k⟩ := h
    obtain ⟨n0, rfl, hn0⟩ := one_of h2 h4
    have gb := g.b
    have gc := g.c
    refine ⟨_, (pss_one (ps_fldaug (pv 0) (pe_c c_signed hr (by decide) (by rfl) (pa_cons (pe_ix ix_list (pv 2) pe_int (fun _ _ => rfl)) pa_nil)) in_add)), ?_⟩
    refine ⟨_, rfl, A.x, C, A.dx, _, _, rfl, hm.x, M'.cl, M'.place, mf_place _ _ _, _, rfl, n, _, _, _, rfl, rfl, SqL.of hn, atI_nat (j := 0) rfl, n0, rfl, _, _, rfl, rfl, _, _, hm.x, mf_few _ _ _, ?_⟩
    rw [put_place]
    exact k _ (hm.setX _ m.why) ((Out.refl A H).x _)

theorem ok_do_zero (D : DefAt K mg "do_zero" sD_do_zero) (T : Txt w K mg) (M' : TxtM K mg C) : Cal P w K mg base 1 "do_zero" (spDo C .zero) [] := by
  refine cal_of D sc_do_zero (fun _ _ _ _ _ _ us hl => match us, hl with | [_, _, _], _ => rfl) (fun vs H Q E h => ?_) (fun cdv Ar outer s H vs Q E hr h => ?_)
  · obtain ⟨A, ws, m, bx, nm, b, n, rfl, _⟩ := h
    rfl
  · obtain ⟨A, ws, m, bx, nm, b, n, rfl, hm, g, hb, hn, ⟨h1, h2, h3, h4⟩, hs, hnk, k⟩ := h
    obtain ⟨b0, rfl, hb0⟩ := one_of h1 h3
    obtain ⟨n0, rfl, hn0⟩ := one_of h2 h4
    have gb := g.b
    have gc := g.c
    refine ⟨_, (pss_one (ps_if (pt_cmpR op_eq (pe_ix ix_list (pe_fld (pv 0) rfl) (pe_ix ix_list (pv 1) pe_int (fun _ _ => rfl)) (fun _ _ => rfl)) pe_int (nomark _))
   (pss_one (ps_fld (pv 0) (pe_ix ix_list (pv 2) pe_int (fun _ _ => rfl)) rfl))
   pss_nil)), ?_⟩
    refine ⟨_, rfl, A.x, C, A.dx, _, _, rfl, hm.x, M'.cl, M'.boxes, mf_boxes _ _ _, _, rfl, b, _, _, _, rfl, rfl, SqL.of hb, atI_nat (j := 0) rfl, A.b, _, _, _, rfl, rfl, SqL.of hm.b, ints_atI hb0.1 (by omega), rfl, _, rfl, ?_⟩
    by_cases hz : m.boxes.getD b0.toNat 0 = 0
    · have e : doK .zero [b0] [n0] m = { m with place := n0 } := if_pos hz
      rw [e] at k
      rw [decide_eq_true (show V.int (m.boxes.getD b0.toNat 0) = V.int 0 by rw [hz])]
      refine iteT ?_
      refine ⟨_, rfl, n, _, _, _, rfl, rfl, SqL.of hn, atI_nat (j := 0) rfl, _, rfl, A.x, C, A.dx, _, rfl, hm.x, M'.cl, M'.place, mf_few _ _ _, ?_⟩
      rw [put_place]
      exact k _ (hm.setX n0 m.why) ((Out.refl A H).x _)
    · have e : doK .zero [b0] [n0] m = m := if_neg hz
      rw [e] at k
      rw [decide_eq_false (show ¬ V.int (m.boxes.getD b0.toNat 0) = V.int 0 from fun q => hz (V.int.inj q))]
      exact iteF (k _ hm (Out.refl A H))

theorem ok_do_same (D : DefAt K mg "do_same" sD_do_same) (T : Txt w K mg) (M' : TxtM K mg C) : Cal P w K mg base 1 "do_same" (spDo C .same) [] := by
  refine cal_of D sc_do_same (fun _ _ _ _ _ _ us hl => match us, hl with | [_, _, _], _ => rfl) (fun vs H Q E h => ?_) (fun cdv Ar outer s H vs Q E hr h => ?_)
  · obtain ⟨A, ws, m, bx, nm, b, n, rfl, _⟩ := h
    rfl
  · obtain ⟨A, ws, m, bx, nm, b, n, rfl, hm, g, hb, hn, ⟨h1, h2, h3, h4⟩, hs, hnk, k⟩ := h
    obtain ⟨b0, b1, rfl, hb0, hb1⟩ := two_of h1 h3
    obtain ⟨n0, rfl, hn0⟩ := one_of h2 h4
    have gb := g.b
    have gc := g.c
    refine ⟨_, (pss_one (ps_if (pt_cmpR op_eq (pe_ix ix_list (pe_fld (pv 0) rfl) (pe_ix ix_list (pv 1) pe_int (fun _ _ => rfl)) (fun _ _ => rfl)) (pe_ix ix_list (pe_fld (pv 0) rfl) (pe_ix ix_list (pv 1) pe_int (fun _ _ => rfl)) (fun _ _ => rfl)) (nomark _))
   (pss_one (ps_fld (pv 0) (pe_ix ix_list (pv 2) pe_int (fun _ _ => rfl)) rfl))
   pss_nil)), ?_⟩
    refine ⟨_, rfl, A.x, C, A.dx, _, _, rfl, hm.x, M'.cl, M'.boxes, mf_boxes _ _ _, _, rfl, b, _, _, _, rfl, rfl, SqL.of hb, atI_nat (j := 0) rfl, A.b, _, _, _, rfl, rfl, SqL.of hm.b, ints_atI hb0.1 (by omega), _, rfl, A.x, C, A.dx, _, _, rfl, hm.x, M'.cl, M'.boxes, mf_boxes _ _ _, _, rfl, b, _, _, _, rfl, rfl, SqL.of hb, atI_nat (j := 1) rfl, A.b, _, _, _, rfl, rfl, SqL.of hm.b, ints_atI hb1.1 (by omega), rfl, _, rfl, ?_⟩
    by_cases hz : m.boxes.getD b0.toNat 0 = m.boxes.getD b1.toNat 0
    · have e : doK .same [b0, b1] [n0] m = { m with place := n0 } := if_pos hz
      rw [e] at k
      rw [decide_eq_true (show V.int (m.boxes.getD b0.toNat 0) = V.int (m.boxes.getD b1.toNat 0) by rw [hz])]
      refine iteT ?_
      refine ⟨_, rfl, n, _, _, _, rfl, rfl, SqL.of hn, atI_nat (j := 0) rfl, _, rfl, A.x, C, A.dx, _, rfl, hm.x, M'.cl, M'.place, mf_few _ _ _, ?_⟩
      rw [put_place]
      exact k _ (hm.setX n0 m.why) ((Out.refl A H).x _)
    · have e : doK .same [b0, b1] [n0] m = m := if_neg hz
      rw [e] at k
      rw [decide_eq_false (show ¬ V.int (m.boxes.getD b0.toNat 0) = V.int (m.boxes.getD b1.toNat 0) from fun q => hz (V.int.inj q))]
      exact iteF (k _ hm (Out.refl A H))

theorem ok_do_copy (D : DefAt K mg "do_copy" sD_do_copy) (T : Txt w K mg) (M' : TxtM K mg C) : Cal P w K mg base 1 "do_copy" (spDo C .copy) [] := by
  refine cal_of D sc_do_copy (fun _ _ _ _ _ _ us hl => match us, hl with | [_, _, _], _ => rfl) (fun vs H Q E h => ?_) (fun cdv Ar outer s H vs Q E hr h => ?_)
  · obtain ⟨A, ws, m, bx, nm, b, n, rfl, _⟩ := h
    rfl
  · obtain ⟨A, ws, m, bx, nm, b, n, rfl, hm, g, hb, hn, ⟨h1, h2, h3, h4⟩, hs, hnk, k⟩ := h
    obtain ⟨n0, n1, rfl, hn0, hn1⟩ := two_of h2 h4
    have gb := g.b
    have gc := g.c
    refine ⟨_, (pss_one (ps_asg (pe_ix ix_list (pe_fld (pv 0) rfl) (pe_ix ix_list (pv 2) pe_int (fun _ _ => rfl)) (fun _ _ => rfl)) (pg_sub (pe_fld (pv 0) rfl) (pe_ix ix_list (pv 2) pe_int (fun _ _ => rfl)) set_list))), ?_⟩
    refine ⟨_, rfl, A.x, C, A.dx, _, _, rfl, hm.x, M'.cl, M'.cells, mf_cells _ _ _, _, rfl, n, _, _, _, rfl, rfl, SqL.of hn, atI_nat (j := 0) rfl, A.c, _, _, _, rfl, rfl, SqL.of hm.c, ints_atI hn0.1 (by have := hn0.2; omega), _, rfl, A.x, C, A.dx, _, _, rfl, hm.x, M'.cl, M'.cells, mf_cells _ _ _, _, rfl, n, _, _, _, rfl, rfl, SqL.of hn, atI_nat (j := 1) rfl, A.c, _, _, _, rfl, rfl, hm.c, ixN_in hn1.1 (by rw [List.length_map]; have := hn1.2; omega), ?_⟩
    rw [il_set]
    exact k _ (hm.setC _) ((Out.refl A H).c _)
end
end Rs
namespace Rs
open PySem PySem.Spec PyProof.Rows L2 C8
def doName : Kd → Str
  | .stop => "do_stop" | .back => "do_back" | .say => "do_say" | .takeL => "do_take" | .move => "do_move" | .add => "do_add" | .less => "do_less" | .load => "do_load" | .store => "do_store"
  | .jump => "do_jump" | .call => "do_call" | .skip => "do_skip" | .zero => "do_zero" | .same => "do_same" | .copy => "do_copy" | .take => "do_take"
section
variable {X : Cx}
theorem pe_callAt {k j i : Nat} {f : Addr} {sp : Sp} {x : Str} {p pos : Pos} {e : Expr} {es : List Expr} {t : TA} (c : CalAt X.prog X.w X.K X.mg X.base k f sp) (hr : Room j X.A) (hk : k ≤ j) (hN : X.N[i]? = some x) (hv : Vis X.env.scope x) (ha : PA X (e :: es) t)
    (hdb : (x == ("__debug__" : Str)) = false := by decide) (hcd : (x == ("__classdict__" : Str)) = false := by decide)
    (he : starEach (e :: es) X.env = (false, eval e X.env) :: starEach es X.env := by rfl) (hpl : (backTo pos (starEach es X.env)).any (·.1) = false := by rfl) : PE X (.Call (.Name x p) (e :: es) [] pos) (tCallL i f sp [] L2.E0 t) := by
  obtain ⟨fd, ps, F, kp, b⟩ := c.ex
  exact pe_callL F (hr.mono hk) hN hv kp b .nil L2.pass0 ha hdb hcd he hpl
end
section
variable {P : Program} {w : World} {K : PySem.W.Frag} {mg : Str → Option Value} {base : Heap} {C : Addr}
theorem calAt_of {k : Nat} {x : Str} {sp : Sp} {a : Addr} (c : Cal P w K mg base k x sp []) (e : mg x = some (.ref a)) : CalAt P w K mg base k a sp := by
  obtain ⟨f, fd, ps, ds, F, hm, kp, b, d⟩ := c.ex
  rw [hm] at e
  cases e
  cases d
  exact ⟨fd, ps, F, kp, b⟩
theorem CalAt.up {k j : Nat} {a : Addr} {sp : Sp} (c : CalAt P w K mg base k a sp) (h : k ≤ j) : k ≤ j := h
def spDoRow (C : Addr) : Sp := fun vs H Q _ => ∃ (A : Ad) (ws : List Int) (m : M) (r : Row) (t b n : Addr), vs = [.ref A.x, .ref t] ∧ H t = some (.tup [.str r.k.str, .ref b, .ref n]) ∧ MAt C H A ws m ∧ Good m ∧ H b = some (.lst (il r.bx)) ∧ H n = some (.lst (il r.nm)) ∧ Ok r ∧
  m.says.length ≤ 1001 ∧ n ≠ A.k ∧ ∀ H', MAt C H' A ws (doK r.k r.bx r.nm { m with place := m.place + r.size }) → Out A H H' → Q .non H'
theorem ok_do_row (D : DefAt K mg "do_row" sD_do_row) (T : Txt w K mg) (M' : TxtM K mg C) (c_row_size : Cal P w K mg base 1 "row_size" spSize []) (acts : ∀ k : Kd, KDct K w (He.ga K "ACTIONS") k.str (.ref (He.ga K (doName k))))
    (CAs : ∀ k : Kd, CalAt P w K mg base 2 (He.ga K (doName k)) (spDo C k)) : Cal P w K mg base 3 "do_row" (spDoRow C) [] := by
  refine cal_of D sc_do_row (fun _ _ _ _ _ _ us hl => match us, hl with | [_, _], _ => rfl) (fun vs H Q E h => ?_) (fun cdv Ar outer s H vs Q E hr h => ?_)
  · obtain ⟨A, ws, m, r, t, b, n, rfl, _⟩ := h
    rfl
  · obtain ⟨A, ws, m, r, t, b, n, rfl, ht, hm, g, hb, hn, ho, hs, hnk, k⟩ := h
    have CA := CAs r.k
    refine ⟨_, (pss_cons (ps_asg (pv 1) (pg_tup rfl (pgs_cons (pg_name (i := 2) sc_do_row.nd rfl (Or.inl rfl)) (pgs_cons (pg_name (i := 3) sc_do_row.nd rfl (Or.inl rfl)) (pgs_cons (pg_name (i := 4) sc_do_row.nd rfl (Or.inl rfl)) pgs_nil)))))
  (pss_cons (ps_fldaug (pv 0) (pe_c c_row_size hr (by decide) (by rfl) (pa_cons (pv 2) pa_nil)) in_add)
  (pss_cons (ps_set (i := 5) sc_do_row.nd rfl (Or.inl rfl) (pe_ix ix_kdict (pe_gR (by rfl) T.g_ACTIONS) (pv 2) (fun _ _ => rfl)))
  (pss_one (ps_expr (pe_callAt (i := 5) CA hr (by decide) rfl (Or.inl rfl) (pa_cons (pv 0) (pa_cons (pv 3) (pa_cons (pv 4) pa_nil))))))))), ?_⟩
    refine ⟨_, rfl, t, _, rfl, SqT.of ht, rfl, _, _, rfl, _, _, rfl, _, _, rfl, rfl, ?_⟩
    refine ⟨_, rfl, A.x, C, A.dx, _, _, rfl, hm.x, M'.cl, M'.place, mf_place _ _ _, _, rfl, r.k, rfl, _, _, rfl, rfl, _, _, hm.x, mf_few _ _ _, ?_⟩
    rw [put_place]
    have hm2 := hm.setX (m.place + ((rSize r.k : Nat) : Int)) m.why
    have hbx : b ≠ A.x := ne_of hb hm.x (by intro q; cases q)
    have hnx : n ≠ A.x := ne_of hn hm.x (by intro q; cases q)
    refine ⟨_, rfl, _, _, _, rfl, rfl, acts r.k, ?_⟩
    refine ⟨rfl, _, rfl, _, rfl, _, rfl, A, ws, _, r.bx, r.nm, b, n, rfl, hm2, ⟨g.c, g.b, g.cv, g.bv, g.k, g.s⟩, (upd_ne hbx).trans hb, (upd_ne hnx).trans hn, ⟨ho.bl, ho.nl, ho.bv, ho.nv⟩, hs, hnk, fun H' h1 h2 => ?_⟩
    rw [ho.sz] at k
    exact k H' h1 (((Out.refl A H).x _).trans h2)
def spInit (K : PySem.W.Frag) (C : Addr) : Sp := fun vs H Q _ => ∃ (x dx a : Addr) (ws : List Int) (begin : Int), vs = [.ref x, .ref a, .int begin] ∧ H x = some (.ins C dx []) ∧ SqL K H a (il ws) ∧ ws.length ≤ 256 ∧ x ≠ a ∧
  ∀ (H' : Hp) (A : Ad), A.x = x → A.dx = dx → MAt C H' A ws (init ws begin) → H A.w = none → H A.c = none → H A.b = none → H A.k = none → H A.s = none → (∀ q o, H q = some o → q ≠ x → H' q = some o) → Q .non H'
def Pr (x : Addr) (H H1 : Hp) : Prop := ∀ q o, H q = some o → q ≠ x → H1 q = some o
theorem Pr.fresh {x p : Addr} {H H1 : Hp} {o : HO} (pr : Pr x H H1) (hx : H1 x = some o) (hp : H1 p = none) : H p = none := by
  cases e : H p with
  | none => rfl
  | some u =>
    by_cases q : p = x
    · rw [q, hx] at hp
      cases hp
    · rw [pr p u e q] at hp
      cases hp
theorem Pr.seq {x a : Addr} {H H1 : Hp} {xs : List V} (pr : Pr x H H1) (h : SqL K H a xs) (n : x ≠ a) : SqL K H1 a xs := by
  rcases h with (h | ⟨o, h⟩) | h
  · exact .inl (.inl (pr _ _ h n.symm))
  · exact .inl (.inr ⟨o, pr _ _ h n.symm⟩)
  · exact .inr h
theorem Pr.add {x p : Addr} {H H1 : Hp} {o : HO} (pr : Pr x H H1) (h : H1 p = none) : Pr x H (upd H1 p o) := fun q u e n => by
  rw [upd_ne (ne_of_none (pr q u e n) h)]
  exact pr q u e n
theorem Pr.at {x : Addr} {H H1 : Hp} {o : HO} (pr : Pr x H H1) : Pr x H (upd H1 x o) := fun q u e n => by
  rw [upd_ne n]
  exact pr q u e n
theorem ok_init {f : Addr} {fd : FuncData} (F : FnP K "__init__" "Machine.__init__" sD_Machineinit f fd) (T : Txt w K mg) (M' : TxtM K mg C) : FnOk P w K mg base L2.CX0 1 f fd ["self", "words", "begin"] (spInit K C) := by
  refine fnok_of F sc_Machineinit (fun vs H Q E h => ?_) (fun cdv Ar outer s H vs Q E hr h => ?_)
  · obtain ⟨x, dx, a, ws, be, rfl, _⟩ := h
    rfl
  · obtain ⟨x, dx, a, ws, be, rfl, hx, hS, hl, hxa, k⟩ := h
    refine ⟨_, (pss_cons (ps_fld (pv 0) (pe_callTy call_list_of (by rfl) T.free_list (by decide +kernel) (pa_cons (pv 1) pa_nil)) rfl)
  (pss_cons (ps_fld (pv 0) (pe_op op_cat (pe_callTy call_list_of (by rfl) T.free_list (by decide +kernel) (pa_cons (pv 1) pa_nil)) (pe_op op_rep (pe_lst (pa_cons pe_int pa_nil)) (pe_op op_sub (pe_gI (by rfl) T.g_CELLS) (pe_callB call_len_seq (by rfl) T.free_len (by decide +kernel) (pa_cons (pv 1) pa_nil))))) rfl)
  (pss_cons (ps_fld (pv 0) (pe_lst (pa_cons pe_int (pa_cons pe_int (pa_cons pe_int (pa_cons pe_int pa_nil))))) rfl)
  (pss_cons (ps_fld (pv 0) (pe_lst pa_nil) rfl)
  (pss_cons (ps_fld (pv 0) (pe_lst pa_nil) rfl)
  (pss_cons (ps_fld (pv 0) (pv 2) rfl)
  (pss_one (ps_fld (pv 0) pe_str rfl)))))))), ?_⟩
    -- words
    refine ⟨_, rfl, a, _, rfl, .inl hS, fun aw haw => ?_⟩
    have nw : x ≠ aw := ne_of_none hx haw
    refine ⟨_, rfl, x, C, dx, [], rfl, (upd_ne nw).trans hx, M'.cl, M'.words, (by show 0 < 1000; decide), ?_⟩
    have x1 : upd (upd H aw (.lst (il ws))) x (.ins C dx (putF "words" (.ref aw) [])) x = some (.ins C dx [("words", .ref aw)]) := upd_same
    have w1 : upd (upd H aw (.lst (il ws))) x (.ins C dx (putF "words" (.ref aw) [])) aw = some (.lst (il ws)) := (upd_ne nw.symm).trans upd_same
    have p1 : Pr x H (upd (upd H aw (.lst (il ws))) x (.ins C dx (putF "words" (.ref aw) []))) := (Pr.add (fun q o e _ => e) haw).at
    generalize upd (upd H aw (.lst (il ws))) x (.ins C dx (putF "words" (.ref aw) [])) = H1 at x1 w1 p1 ⊢
    -- cells
    refine ⟨_, rfl, a, _, rfl, .inl (p1.seq hS hxa), fun l2 hl2 => ?_⟩
    refine ⟨(by show 1 ≤ sizeLine; decide), fun z hz => ?_⟩
    have p2 : Pr x H (upd H1 l2 (.lst (il ws))) := p1.add hl2
    have p3 : Pr x H (upd (upd H1 l2 (.lst (il ws))) z (.lst [V.int 0])) := p2.add hz
    have n2z : l2 ≠ z := ne_of_none upd_same hz
    refine ⟨_, rfl, a, _, rfl, .inl (p3.seq hS hxa), _, _, rfl, rfl, z, _, _, rfl, rfl, upd_same, ?_, ?_, ?_, fun zr hzr => ?_⟩
    · rw [List.length_map]
      omega
    · rw [List.length_map]
      omega
    · rw [List.length_map]
      have : (([V.int 0] : List V)).length * ((256 : Int) - (ws.length : Int)).toNat ≤ 256 := by simp
      exact Nat.le_trans this (by decide)
    have n2r : l2 ≠ zr := ne_of_none ((upd_ne n2z).trans upd_same) hzr
    have p4 := p3.add (o := .lst (List.replicate ((256 : Int) - ((il ws).length : Int)).toNat [V.int 0]).flatten) hzr
    refine ⟨l2, zr, _, _, rfl, rfl, (upd_ne n2r).trans ((upd_ne n2z).trans upd_same), upd_same, ?_, fun ac hac => ?_⟩
    · have e : (il ws).length = ws.length := List.length_map ..
      have e2 : (List.replicate ((256 : Int) - ((il ws).length : Int)).toNat [V.int 0]).flatten.length ≤ 256 := by
        rw [List.length_flatten, List.map_replicate, List.sum_replicate_nat]
        simp
      exact Nat.le_trans (Nat.add_le_add (show (il ws).length ≤ 256 by omega) e2) (by decide)
    have ec : il ws ++ (List.replicate ((256 : Int) - ((il ws).length : Int)).toNat [V.int 0]).flatten = il (init ws be).cells := by
      have e : (il ws).length = ws.length := List.length_map ..
      have e1 : ((256 : Int) - (ws.length : Int)).toNat = 256 - ws.length := by omega
      have e2 : ∀ n : Nat, (List.replicate n [V.int 0]).flatten = il (List.replicate n 0) := fun n => by
        induction n with
        | zero => rfl
        | succ n ih =>
          rw [List.replicate_succ, List.flatten_cons, ih]
          rfl
      rw [e, e1, e2]
      show il ws ++ il (List.replicate (256 - ws.length) 0) = il (ws ++ List.replicate (256 - ws.length) 0)
      simp [il]
    rw [ec]
    have x4 : upd (upd (upd H1 l2 (.lst (il ws))) z (.lst [V.int 0])) zr (.lst (List.replicate ((256 : Int) - ((il ws).length : Int)).toNat [V.int 0]).flatten) x = some (.ins C dx [("words", .ref aw)]) := by
      have a1 : x ≠ l2 := ne_of_none x1 hl2
      have a2 : x ≠ z := ne_of_none ((upd_ne a1).trans x1) hz
      have a3 : x ≠ zr := ne_of_none ((upd_ne a2).trans ((upd_ne a1).trans x1)) hzr
      rw [upd_ne a3, upd_ne a2, upd_ne a1]
      exact x1
    have w4 : upd (upd (upd H1 l2 (.lst (il ws))) z (.lst [V.int 0])) zr (.lst (List.replicate ((256 : Int) - ((il ws).length : Int)).toNat [V.int 0]).flatten) aw = some (.lst (il ws)) := by
      have a1 : aw ≠ l2 := ne_of_none w1 hl2
      have a2 : aw ≠ z := ne_of_none ((upd_ne a1).trans w1) hz
      have a3 : aw ≠ zr := ne_of_none ((upd_ne a2).trans ((upd_ne a1).trans w1)) hzr
      rw [upd_ne a3, upd_ne a2, upd_ne a1]
      exact w1
    generalize upd (upd (upd H1 l2 (.lst (il ws))) z (.lst [V.int 0])) zr (.lst (List.replicate ((256 : Int) - ((il ws).length : Int)).toNat [V.int 0]).flatten) = H4 at x4 w4 p4 hac ⊢
    have nc : x ≠ ac := ne_of_none x4 hac
    have nwc : aw ≠ ac := ne_of_none w4 hac
    have hc0 : H ac = none := p4.fresh x4 hac
    refine ⟨_, rfl, x, C, dx, _, rfl, (upd_ne nc).trans x4, M'.cl, M'.cells, (by show 1 < 1000; decide), ?_⟩
    have p5 := (p4.add (o := .lst (il (init ws be).cells)) hac).at (o := .ins C dx (putF "cells" (.ref ac) [("words", .ref aw)]))
    have x5 : upd (upd H4 ac (.lst (il (init ws be).cells))) x (.ins C dx (putF "cells" (.ref ac) [("words", .ref aw)])) x = some (.ins C dx [("words", .ref aw), ("cells", .ref ac)]) := upd_same
    have c5 : upd (upd H4 ac (.lst (il (init ws be).cells))) x (.ins C dx (putF "cells" (.ref ac) [("words", .ref aw)])) ac = some (.lst (il (init ws be).cells)) := (upd_ne nc.symm).trans upd_same
    have w5 : upd (upd H4 ac (.lst (il (init ws be).cells))) x (.ins C dx (putF "cells" (.ref ac) [("words", .ref aw)])) aw = some (.lst (il ws)) := by rw [upd_ne nw.symm, upd_ne nwc]; exact w4
    generalize upd (upd H4 ac (.lst (il (init ws be).cells))) x (.ins C dx (putF "cells" (.ref ac) [("words", .ref aw)])) = H5 at x5 c5 w5 p5 ⊢
    -- boxes
    refine ⟨(by show 4 ≤ sizeLine; decide), fun ab hab => ?_⟩
    have nb : x ≠ ab := ne_of_none x5 hab
    have nwb : aw ≠ ab := ne_of_none w5 hab
    have ncb : ac ≠ ab := ne_of_none c5 hab
    have hb0 : H ab = none := p5.fresh x5 hab
    refine ⟨_, rfl, x, C, dx, _, rfl, (upd_ne nb).trans x5, M'.cl, M'.boxes, (by show 2 < 1000; decide), ?_⟩
    have p6 := (p5.add (o := .lst [V.int 0, V.int 0, V.int 0, V.int 0]) hab).at (o := .ins C dx (putF "boxes" (.ref ab) [("words", .ref aw), ("cells", .ref ac)]))
    have x6 : upd (upd H5 ab (.lst [V.int 0, V.int 0, V.int 0, V.int 0])) x (.ins C dx (putF "boxes" (.ref ab) [("words", .ref aw), ("cells", .ref ac)])) x = some (.ins C dx [("words", .ref aw), ("cells", .ref ac), ("boxes", .ref ab)]) := upd_same
    have b6 : upd (upd H5 ab (.lst [V.int 0, V.int 0, V.int 0, V.int 0])) x (.ins C dx (putF "boxes" (.ref ab) [("words", .ref aw), ("cells", .ref ac)])) ab = some (.lst (il [0, 0, 0, 0])) := (upd_ne nb.symm).trans upd_same
    have w6 : upd (upd H5 ab (.lst [V.int 0, V.int 0, V.int 0, V.int 0])) x (.ins C dx (putF "boxes" (.ref ab) [("words", .ref aw), ("cells", .ref ac)])) aw = some (.lst (il ws)) := by rw [upd_ne nw.symm, upd_ne nwb]; exact w5
    have c6 : upd (upd H5 ab (.lst [V.int 0, V.int 0, V.int 0, V.int 0])) x (.ins C dx (putF "boxes" (.ref ab) [("words", .ref aw), ("cells", .ref ac)])) ac = some (.lst (il (init ws be).cells)) := by rw [upd_ne nc.symm, upd_ne ncb]; exact c5
    generalize upd (upd H5 ab (.lst [V.int 0, V.int 0, V.int 0, V.int 0])) x (.ins C dx (putF "boxes" (.ref ab) [("words", .ref aw), ("cells", .ref ac)])) = H6 at x6 b6 w6 c6 p6 ⊢
    -- calls
    refine ⟨Nat.zero_le _, fun ak hak => ?_⟩
    have nk : x ≠ ak := ne_of_none x6 hak
    have nwk : aw ≠ ak := ne_of_none w6 hak
    have nck : ac ≠ ak := ne_of_none c6 hak
    have nbk : ab ≠ ak := ne_of_none b6 hak
    have hk0 : H ak = none := p6.fresh x6 hak
    refine ⟨_, rfl, x, C, dx, _, rfl, (upd_ne nk).trans x6, M'.cl, M'.calls, (by show 3 < 1000; decide), ?_⟩
    have p7 := (p6.add (o := .lst []) hak).at (o := .ins C dx (putF "calls" (.ref ak) [("words", .ref aw), ("cells", .ref ac), ("boxes", .ref ab)]))
    have x7 : upd (upd H6 ak (.lst [])) x (.ins C dx (putF "calls" (.ref ak) [("words", .ref aw), ("cells", .ref ac), ("boxes", .ref ab)])) x = some (.ins C dx [("words", .ref aw), ("cells", .ref ac), ("boxes", .ref ab), ("calls", .ref ak)]) := upd_same
    have k7 : upd (upd H6 ak (.lst [])) x (.ins C dx (putF "calls" (.ref ak) [("words", .ref aw), ("cells", .ref ac), ("boxes", .ref ab)])) ak = some (.lst (il [])) := (upd_ne nk.symm).trans upd_same
    have w7 : upd (upd H6 ak (.lst [])) x (.ins C dx (putF "calls" (.ref ak) [("words", .ref aw), ("cells", .ref ac), ("boxes", .ref ab)])) aw = some (.lst (il ws)) := by rw [upd_ne nw.symm, upd_ne nwk]; exact w6
    have c7 : upd (upd H6 ak (.lst [])) x (.ins C dx (putF "calls" (.ref ak) [("words", .ref aw), ("cells", .ref ac), ("boxes", .ref ab)])) ac = some (.lst (il (init ws be).cells)) := by rw [upd_ne nc.symm, upd_ne nck]; exact c6
    have b7 : upd (upd H6 ak (.lst [])) x (.ins C dx (putF "calls" (.ref ak) [("words", .ref aw), ("cells", .ref ac), ("boxes", .ref ab)])) ab = some (.lst (il [0, 0, 0, 0])) := by rw [upd_ne nb.symm, upd_ne nbk]; exact b6
    generalize upd (upd H6 ak (.lst [])) x (.ins C dx (putF "calls" (.ref ak) [("words", .ref aw), ("cells", .ref ac), ("boxes", .ref ab)])) = H7 at x7 k7 w7 c7 b7 p7 ⊢
    -- says
    refine ⟨Nat.zero_le _, fun as has => ?_⟩
    have ns : x ≠ as := ne_of_none x7 has
    have nws : aw ≠ as := ne_of_none w7 has
    have ncs : ac ≠ as := ne_of_none c7 has
    have nbs : ab ≠ as := ne_of_none b7 has
    have nks : ak ≠ as := ne_of_none k7 has
    have hs0 : H as = none := p7.fresh x7 has
    refine ⟨_, rfl, x, C, dx, _, rfl, (upd_ne ns).trans x7, M'.cl, M'.says, (by show 4 < 1000; decide), ?_⟩
    refine ⟨_, rfl, _, rfl, x, C, dx, _, rfl, upd_same, M'.cl, M'.place, (by show 5 < 1000; decide), ?_⟩
    refine ⟨_, rfl, x, C, dx, _, rfl, upd_same, M'.cl, M'.why, (by show 6 < 1000; decide), ?_⟩
    refine k _ ⟨x, dx, aw, ac, ab, ak, as⟩ rfl rfl ⟨upd_same, ?_, ?_, ?_, ?_, ?_, ?_⟩ haw hc0 hb0 hk0 hs0 ?_
    · rw [upd_ne nw.symm, upd_ne nw.symm, upd_ne nw.symm, upd_ne nws]
      exact w7
    · rw [upd_ne nc.symm, upd_ne nc.symm, upd_ne nc.symm, upd_ne ncs]
      exact c7
    · rw [upd_ne nb.symm, upd_ne nb.symm, upd_ne nb.symm, upd_ne nbs]
      exact b7
    · rw [upd_ne nk.symm, upd_ne nk.symm, upd_ne nk.symm, upd_ne nks]
      exact k7
    · rw [upd_ne ns.symm, upd_ne ns.symm, upd_ne ns.symm]
      exact upd_same
    · simp [nwc, nwb, nwk, nws, ncb, nck, ncs, nbk, nbs, nks]
    · intro q o e n
      rw [upd_ne n, upd_ne n, upd_ne n]
      exact p7.add has q o e n
theorem MAt.same {H H' : Hp} {A : Ad} {ws : List Int} {m : M} (h : MAt C H A ws m) (s : Same H H') : MAt C H' A ws m := ⟨s _ _ h.x, s _ _ h.w, s _ _ h.c, s _ _ h.b, s _ _ h.k, s _ _ h.s, h.nd⟩
/-- apart from all parts -/
def Apart (A : Ad) (q : Addr) : Prop := A.x ≠ q ∧ A.w ≠ q ∧ A.c ≠ q ∧ A.b ≠ q ∧ A.k ≠ q ∧ A.s ≠ q
theorem MAt.other {H : Hp} {A : Ad} {ws : List Int} {m : M} {q : Addr} {o : HO} (h : MAt C H A ws m) (n : Apart A q) : MAt C (upd H q o) A ws m :=
  ⟨(upd_ne n.1).trans h.x, (upd_ne n.2.1).trans h.w, (upd_ne n.2.2.1).trans h.c, (upd_ne n.2.2.2.1).trans h.b, (upd_ne n.2.2.2.2.1).trans h.k, (upd_ne n.2.2.2.2.2).trans h.s, h.nd⟩
theorem MAt.apart {H : Hp} {A : Ad} {ws : List Int} {m : M} {q : Addr} (h : MAt C H A ws m) (n : H q = none) : Apart A q :=
  ⟨ne_of_none h.x n, ne_of_none h.w n, ne_of_none h.c n, ne_of_none h.b n, ne_of_none h.k n, ne_of_none h.s n⟩
theorem Out.at {A : Ad} {H H' : Hp} {q : Addr} (h : Out A H H') (n : Apart A q) : H' q = H q := h q n.1.symm n.2.2.1.symm n.2.2.2.1.symm n.2.2.2.2.1.symm n.2.2.2.2.2.symm
def spRun (K : PySem.W.Frag) : Sp := fun vs H Q _ => ∃ (a : Addr) (ws : List Int) (begin : Int) (most : Nat), vs = [.ref a, .int begin, .int most] ∧ H a = some (.lst (il ws)) ∧ ws.length ≤ 256 ∧ Bytes ws ∧ 0 ≤ begin ∧ begin ≤ 255 ∧ most ≤ 1000 ∧
  ∀ (H' : Hp) (t s p : Addr), Same H H' → H t = none → H s = none → H p = none → s ≠ p → H' t = some (.tup [.ref s, .str (runW ws most (init ws begin)).why, .ref p]) → H' s = some (.lst (il (runW ws most (init ws begin)).says)) →
    H' p = some (.lst (il (runW ws most (init ws begin)).past)) → Q (.ref t) H'
theorem ok_run (D : DefAt K mg "run" sD_run) (T : Txt w K mg) (M' : TxtM K mg C) (c_check_words : Cal P w K mg base 2 "check_words" (spCheckW K) []) (c_check_begin : Cal P w K mg base 2 "check_begin" spCheckB [])
    (c_check_most : Cal P w K mg base 2 "check_most" spCheckM []) (c_Machine : Mak P w K mg base 1 "Machine" C (spInit K C) []) (c_row_at : Cal P w K mg base 2 "row_at" (spRowAt K) []) (c_do_row : Cal P w K mg base 3 "do_row" (spDoRow C) []) :
    Cal P w K mg base 4 "run" (spRun K) [] := by
  refine cal_of D sc_run (fun _ _ _ _ _ _ us hl => match us, hl with | [_, _, _], _ => rfl) (fun vs H Q E h => ?_) (fun cdv Ar outer s H vs Q E hr h => ?_)
  · obtain ⟨a, ws, be, mo, rfl, _⟩ := h
    rfl
  · obtain ⟨a, ws, be, mo, rfl, hS, hl, hb, b0, b1, m1, k⟩ := h
    refine ⟨_, (pss_cons (ps_expr (pe_c c_check_words hr (by decide) (by rfl) (pa_cons (pv 0) pa_nil)))
  (pss_cons (ps_expr (pe_c c_check_begin hr (by decide) (by rfl) (pa_cons (pv 1) pa_nil)))
  (pss_cons (ps_expr (pe_c c_check_most hr (by decide) (by rfl) (pa_cons (pv 2) pa_nil)))
  (pss_cons (ps_set (i := 3) sc_run.nd rfl (Or.inl rfl) (pe_mk c_Machine hr (by decide) (by rfl) (pa_cons (pv 0) (pa_cons (pv 1) pa_nil))))
  (pss_cons (ps_set (i := 4) sc_run.nd rfl (Or.inl rfl) (pe_lst pa_nil))
  (pss_cons (ps_while PassesOwn.never (PW.pt (pw_and (pt_cmpR op_eq (pe_fld (pv 3) rfl) pe_str (nomark _)) (pw_and1 (pt_cmpR op_lt (pe_callB call_len_seq (by rfl) T.free_len (by decide +kernel) (pa_cons (pv 4) pa_nil)) (pv 2) (nomark _)))))
   (pss_cons (ps_set (i := 5) sc_run.nd rfl (Or.inl rfl) (pe_c c_row_at hr (by decide) (by rfl) (pa_cons (pe_fld (pv 3) rfl) (pa_cons (pe_fld (pv 3) rfl) pa_nil))))
  (pss_one (ps_if (pt_cmpR op_notN (pv 5) pe_non (nomark _))
   (pss_cons (ps_expr (pe_bm PySem.F.plainAttrs_list PySem.F.slot_list_append PySem.F.type_list_append mt_append (pv 4) (pa_cons (pe_fld (pv 3) rfl) pa_nil)))
  (pss_one (ps_expr (pe_c c_do_row hr (by decide) (by rfl) (pa_cons (pv 3) (pa_cons (pv 5) pa_nil))))))
   (pss_one (ps_if (pt_chain op_le op_lt pe_int (pe_fld (pv 3) rfl) (pe_callB call_len_seq (by rfl) T.free_len (by decide +kernel) (pa_cons (pe_fld (pv 3) rfl) pa_nil)))
   (pss_one (ps_fld (pv 3) pe_str rfl))
   (pss_one (ps_fld (pv 3) pe_str rfl))))))))
  (pss_one (ps_ret (pe_tup (pa_cons (pe_fld (pv 3) rfl) (pa_cons (pe_fld (pv 3) rfl) (pa_cons (pv 4) pa_nil)))))))))))), ?_⟩
    refine ⟨_, rfl, a, ws, rfl, SqL.of hS, hl, hb, fun H1 s1 => ?_⟩
    refine ⟨_, rfl, be, rfl, b0, b1, ?_⟩
    refine ⟨_, rfl, _, rfl, by omega, by omega, ?_⟩
    have hS1 := s1 _ _ hS
    refine ⟨_, rfl, _, rfl, fun x dx nx ndx nex => ?_⟩
    have hxa : x ≠ a := (ne_of_none hS1 nx).symm
    have hda : dx ≠ a := (ne_of_none hS1 ndx).symm
    refine ⟨x, dx, a, ws, be, rfl, upd_same, SqL.of ((upd_ne hxa.symm).trans ((upd_ne hda.symm).trans hS1)), hl, hxa, fun H3 A ax adx hm3 fw fc fb fk fs pr => ⟨rfl, ?_⟩⟩
    have s12 : Same H1 (upd (upd H1 dx (.own x)) x (.ins C dx [])) := fun q o e => by
      rw [upd_ne (ne_of_none e nx), upd_ne (ne_of_none e ndx)]
      exact e
    have s13 : Same H1 H3 := fun q o e => pr q o (s12 q o e) (ne_of_none e nx)
    have s3 : Same H H3 := s1.trans s13
    have zx : H A.x = none := by rw [ax]; exact s1.free nx
    have zw := s1.free (s12.free fw)
    have zc := s1.free (s12.free fc)
    have zb := s1.free (s12.free fb)
    have zk := s1.free (s12.free fk)
    have zs := s1.free (s12.free fs)
    subst ax
    have ap_of : ∀ q o, H q = some o → Apart A q := fun q o e => ⟨(ne_of_none e zx).symm, (ne_of_none e zw).symm, (ne_of_none e zc).symm, (ne_of_none e zb).symm, (ne_of_none e zk).symm, (ne_of_none e zs).symm⟩
    refine ⟨Nat.zero_le _, fun p hp => ?_⟩
    have apP : Apart A p := hm3.apart hp
    have zp : H p = none := s3.free hp
    have sp_ : A.s ≠ p := apP.2.2.2.2.2
    refine ⟨fun n σ' H' => ∃ (m : M) (v : Option V), n = mu mo m ∧ σ' = [some (.ref a), some (.int be), some (.int (mo : Nat)), some (.ref A.x), some (.ref p), v] ∧ MAt C H' A ws m ∧ H' p = some (.lst (il m.past)) ∧ Good m ∧ Same H H' ∧
      runW ws mo m = runW ws mo (init ws be) ∧ m.past.length ≤ mo, ⟨_, init ws be, _, rfl, rfl, hm3.other apP, upd_same, init_good hl hb, s3.add hp, rfl, Nat.zero_le _⟩, ?_⟩
    rintro n σ' H' ⟨m, v, rfl, rfl, hm, hpp, g, sH, er, hpl⟩
    -- what follows the loop
    have fin : ¬ (m.why = "" ∧ m.past.length < mo) → tRet (tTup (tCons (tFld K (tVar 3) "says") (tCons (tFld K (tVar 3) "why") (tCons (tVar 4) tNil)))) { nx := fun _ H' => Q .non H', rt := Q } [some (.ref a), some (.int be), some (.int (mo : Nat)), some (.ref A.x), some (.ref p), v] H' := fun hf => by
      refine ⟨_, rfl, A.x, C, A.dx, _, _, rfl, hm.x, M'.cl, M'.says, mf_says _ _ _, _, rfl, A.x, C, A.dx, _, _, rfl, hm.x, M'.cl, M'.why, mf_why _ _ _, _, rfl, (by show 3 ≤ sizeLine; decide), fun t ht => ?_⟩
      rw [← er, runW_end hf] at k
      have st : A.s ≠ t := ne_of_none hm.s ht
      have pt : p ≠ t := ne_of_none hpp ht
      exact k _ t A.s p (sH.add ht) (sH.free ht) zs zp sp_ upd_same ((upd_ne st).trans hm.s) ((upd_ne pt).trans hpp)
    refine ⟨_, rfl, A.x, C, A.dx, _, _, rfl, hm.x, M'.cl, M'.why, mf_why _ _ _, rfl, _, rfl, ?_⟩
    by_cases hw : m.why = ""
    · rw [decide_eq_true (show V.str m.why = V.str "" by rw [hw])]
      refine iteT ⟨_, rfl, p, _, rfl, .inl (SqL.of hpp), _, rfl, _, _, rfl, rfl, _, rfl, ?_⟩
      rw [List.length_map]
      by_cases hlt : m.past.length < mo
      · rw [decide_eq_true (show ((m.past.length : Nat) : Int) < ((mo : Nat) : Int) by omega)]
        refine iteT ⟨fun σ' H' => ∃ (m2 : M) (v : Option V), mu mo m2 < mu mo m ∧ σ' = [some (.ref a), some (.int be), some (.int (mo : Nat)), some (.ref A.x), some (.ref p), v] ∧ MAt C H' A ws m2 ∧ H' p = some (.lst (il m2.past)) ∧ Good m2 ∧ Same H H' ∧
          runW ws mo m2 = runW ws mo (init ws be) ∧ m2.past.length ≤ mo, fun σ' H' ⟨m2, v, h1, h2⟩ => ⟨_, h1, m2, v, rfl, h2⟩, ?_⟩
        have mst := mu_step (ws := ws) hw hlt
        have ers : runW ws mo (step ws m) = runW ws mo (init ws be) := (runW_go hw hlt).symm.trans er
        have gst := step_good (m := m) hb g
        have hsl : m.says.length ≤ 1001 := by have := g.s; omega
        refine ⟨_, rfl, A.x, C, A.dx, _, _, rfl, hm.x, M'.cl, M'.words, mf_words _ _ _, _, rfl, A.x, C, A.dx, _, _, rfl, hm.x, M'.cl, M'.place, mf_place _ _ _, A.w, ws, m.place, rfl, SqL.of hm.w, hl, fun hn => ?_, fun r hr2 H5 t b n s5 t0 b0' n0 ht hbx hnm => ?_⟩
        · refine ⟨_, rfl, rfl, _, rfl, ?_⟩
          refine iteF ?_
          rw [step_none hn] at mst ers gst
          refine ⟨_, rfl, A.x, C, A.dx, _, _, rfl, hm.x, M'.cl, M'.place, mf_place _ _ _, _, _, rfl, rfl, _, rfl, ?_⟩
          by_cases h1 : 0 ≤ m.place
          · rw [decide_eq_true h1]
            refine iteT ⟨_, rfl, A.x, C, A.dx, _, _, rfl, hm.x, M'.cl, M'.words, mf_words _ _ _, A.w, _, rfl, .inl (SqL.of hm.w), _, _, rfl, rfl, _, rfl, ?_⟩
            rw [List.length_map]
            by_cases h2 : m.place < (ws.length : Int)
            · rw [decide_eq_true h2]
              rw [if_pos ⟨h1, h2⟩] at mst ers gst
              refine iteT ?_
              refine ⟨_, rfl, A.x, C, A.dx, _, rfl, hm.x, M'.cl, M'.why, mf_few _ _ _, ?_⟩
              rw [put_why]
              exact ⟨_, _, mst, rfl, hm.setX m.place "none", (upd_ne apP.1.symm).trans hpp, gst, sH.putNew zx, ers, hpl⟩
            · rw [decide_eq_false h2]
              rw [if_neg (fun q => h2 q.2)] at mst ers gst
              refine iteF ?_
              refine ⟨_, rfl, A.x, C, A.dx, _, rfl, hm.x, M'.cl, M'.why, mf_few _ _ _, ?_⟩
              rw [put_why]
              exact ⟨_, _, mst, rfl, hm.setX m.place "end", (upd_ne apP.1.symm).trans hpp, gst, sH.putNew zx, ers, hpl⟩
          · rw [decide_eq_false h1]
            rw [if_neg (fun q => h1 q.1)] at mst ers gst
            refine iteF ⟨_, rfl, iteF ?_⟩
            refine ⟨_, rfl, A.x, C, A.dx, _, rfl, hm.x, M'.cl, M'.why, mf_few _ _ _, ?_⟩
            rw [put_why]
            exact ⟨_, _, mst, rfl, hm.setX m.place "end", (upd_ne apP.1.symm).trans hpp, gst, sH.putNew zx, ers, hpl⟩
        · refine ⟨_, rfl, rfl, _, rfl, ?_⟩
          refine iteT ?_
          have ho := rowAt_ok hb hr2
          have hm5 := hm.same s5
          have hp5 := s5 _ _ hpp
          refine ⟨_, rfl, .inl ⟨rfl, _, SqL.of hp5⟩, _, rfl, A.x, C, A.dx, _, _, rfl, hm5.x, M'.cl, M'.place, mf_place _ _ _, p, _, _, rfl, rfl, hp5, ?_, ?_⟩
          · rw [List.length_map]
            exact Nat.lt_of_le_of_lt (Nat.le_trans hpl m1) (by decide)
          · rw [il_app]
            have hm6 := hm5.other (o := .lst (il (m.past ++ [m.place]))) apP
            have ntp : t ≠ p := (ne_of_none hpp t0).symm
            have nbp : b ≠ p := (ne_of_none hpp b0').symm
            have nnp : n ≠ p := (ne_of_none hpp n0).symm
            have nnk : n ≠ A.k := (ne_of_none hm.k n0).symm
            have g6 : Good { m with past := m.past ++ [m.place] } := ⟨g.c, g.b, g.cv, g.bv, g.k, by have := g.s; simp; omega⟩
            refine ⟨_, rfl, _, rfl, A, ws, { m with past := m.past ++ [m.place] }, r, t, b, n, rfl, (upd_ne ntp).trans ht, ⟨hm6.x, hm6.w, hm6.c, hm6.b, hm6.k, hm6.s, hm6.nd⟩, g6, (upd_ne nbp).trans hbx, (upd_ne nnp).trans hnm, ho, hsl, nnk, fun H7 hm7 o7 => ?_⟩
            rw [step_some hr2] at mst ers gst
            refine ⟨_, _, mst, rfl, hm7, ?_, gst, fun q o e => ?_, ers, ?_⟩
            · rw [o7.at apP, upd_same, doK_past]
            · rw [o7.at (ap_of q o e), upd_ne (ne_of_none e zp)]
              exact s5 _ _ (sH _ _ e)
            · rw [doK_past]
              simp
              omega
      · rw [decide_eq_false (show ¬ ((m.past.length : Nat) : Int) < ((mo : Nat) : Int) by omega)]
        exact iteF (fin fun q => hlt q.2)
    · rw [decide_eq_false (show ¬ V.str m.why = V.str "" from fun q => hw (V.str.inj q))]
      exact iteF (fin fun q => hw q.1)
end
end Rs
namespace Rs
open PySem PySem.Spec PyProof.Rows L2 C8
theorem pe_c0 {X : Cx} {k j : Nat} {x : Str} {sp : Sp} {dvs : List V} {p pos : Pos} (c : Cal X.prog X.w X.K X.mg X.base k x sp dvs) (hr : Room j X.A) (hk : k ≤ j) (hg : Gl X x) (hdb : (x == ("__debug__" : Str)) = false := by decide) :
    PE X (.Call (.Name x p) [] [] pos) (tCall sp dvs L2.E0 tNil) := by
  obtain ⟨f, fd, ps, ds, F, hm, kp, b, d⟩ := c.ex
  exact pe_call0 F (hr.mono hk) hg hm kp b d L2.pass0 hdb
section
variable {P : Program} {w : World} {K : PySem.W.Frag} {mg : Str → Option Value} {base : Heap}
def stt (a : Addr) (i m r : Int) : List V := [.ref a, .int i, .int m, .int r]
def spStart (K : PySem.W.Frag) : Sp := fun vs H Q _ => ∃ (a : Addr) (ns : List Int), vs = [.ref a] ∧ SqL K H a (il ns) ∧ ∀ p m, H p = none → Q (.ref p) (upd H p (.lst (stt a 0 m 0)))
theorem ok_start (D : DefAt K mg "_law_start" sD__law_start) : Cal P w K mg base 1 "_law_start" (spStart K) [] := by
  refine cal_of D sc__law_start (fun _ _ _ _ _ _ us hl => match us, hl with | [_], _ => rfl) (fun vs H Q E h => ?_) (fun cdv A outer s H vs Q E hr h => ?_)
  · obtain ⟨a, ns, rfl, _⟩ := h
    rfl
  · obtain ⟨a, ns, rfl, hS, k⟩ := h
    refine ⟨_, (pss_cons (ps_set (i := 1) sc__law_start.nd rfl (Or.inl rfl) pe_int)
  (pss_cons (ps_for PassesOwn.never rfl (pi_list (pv 0)) (pg_name (i := 2) sc__law_start.nd rfl (Or.inl rfl))
   (pss_one (ps_set (i := 1) sc__law_start.nd rfl (Or.inl rfl) (pe_op op_mod (pe_op op_add (pe_op op_add (pe_op op_mul (pv 1) pe_int) (pv 2)) pe_int) pe_int))))
  (pss_one (ps_ret (pe_lst (pa_cons (pv 0) (pa_cons pe_int (pa_cons (pv 1) (pa_cons pe_int pa_nil))))))))), ?_⟩
    refine ⟨_, rfl, a, rfl, ⟨_, hS⟩, for_list (K := K) (a := a) (xs := il ns) (fun i σ H' => H = H' ∧ ∃ (m : Int) (v : Option V), σ = [some (.ref a), some (.int m), v]) ⟨rfl, _, _, rfl⟩ (fun i σ H' _ ⟨e, _⟩ => e ▸ hS) ?_ ?_⟩
    · rintro i x σ H' hx ⟨rfl, m, v, rfl⟩
      obtain ⟨hi, rfl⟩ := ints_get hx
      exact ⟨_, rfl, _, _, rfl, rfl, .inr ⟨by decide, by decide⟩, _, rfl, _, _, rfl, rfl, _, _, rfl, rfl, _, _, rfl, rfl, (by show (0 : Int) < 2147483647; decide), rfl, _, _, rfl⟩
    · rintro σ H' ⟨rfl, m, v, rfl⟩
      exact ⟨_, rfl, _, rfl, (by show 4 ≤ sizeLine; decide), fun p hp => k p m hp⟩
/-- the script may be read, whatever is done to st -/
def Scr (K : PySem.W.Frag) (H : Hp) (st a : Addr) (ns : List Int) : Prop := (a ≠ st ∧ Rd H a (.lst (il ns))) ∨ ∀ H', SqL K H' a (il ns)
theorem Scr.seq {K : PySem.W.Frag} {H : Hp} {st a : Addr} {ns : List Int} (h : Scr K H st a ns) : SqL K H a (il ns) := by
  rcases h with ⟨_, h⟩ | h
  · exact .inl h
  · exact h H
theorem Scr.pr {K : PySem.W.Frag} {H H' : Hp} {st a : Addr} {ns : List Int} (h : Scr K H st a ns) (p : Pr st H H') : Scr K H' st a ns := by
  rcases h with ⟨n, h | ⟨o, h⟩⟩ | h
  · exact .inl ⟨n, .inl (p _ _ h n)⟩
  · exact .inl ⟨n, .inr ⟨o, p _ _ h n⟩⟩
  · exact .inr h
theorem Scr.of {K : PySem.W.Frag} {H : Hp} {st a : Addr} {ns : List Int} (h : SqL K H a (il ns)) (n : H st = none) (o : HO) : Scr K (upd H st o) st a ns := by
  rcases h with (h | ⟨u, h⟩) | h
  · exact .inl ⟨ne_of_none h n, .inl ((upd_ne (ne_of_none h n)).trans h)⟩
  · exact .inl ⟨ne_of_none h n, .inr ⟨u, (upd_ne (ne_of_none h n)).trans h⟩⟩
  · exact .inr fun _ => .inr h
def St3 (H : Hp) (st a : Addr) : Prop := ∃ i m r, H st = some (.lst (stt a i m r)) ∧ 0 ≤ i
def Oth (st : Addr) (H H' : Hp) : Prop := ∀ q, q ≠ st → H' q = H q
theorem Oth.pr {st : Addr} {H H' : Hp} (h : Oth st H H') : Pr st H H' := fun q o e n => (h q n).trans e
theorem Pr.trans {x : Addr} {H H1 H2 : Hp} (p : Pr x H H1) (q : Pr x H1 H2) : Pr x H H2 := fun b o e n => q b o (p b o e n) n
theorem Pr.refl (x : Addr) (H : Hp) : Pr x H H := fun _ _ e _ => e
theorem Pr.put {x p : Addr} {H H1 : Hp} {o : HO} (pr : Pr x H H1) (h : H p = none) : Pr x H (upd H1 p o) := fun q u e n => by
  rw [upd_ne (ne_of_none e h)]
  exact pr q u e n
theorem Same.pr {H H' : Hp} (s : Same H H') (x : Addr) : Pr x H H' := fun q o e _ => s q o e
theorem St3.same {H H' : Hp} {st a : Addr} (h : St3 H st a) (s : Same H H') : St3 H' st a := by
  obtain ⟨i, m, r, e, n⟩ := h
  exact ⟨i, m, r, s _ _ e, n⟩
theorem St3.put {H : Hp} {st a p : Addr} {o : HO} (h : St3 H st a) (n : st ≠ p) : St3 (upd H p o) st a := by
  obtain ⟨i, m, r, e, z⟩ := h
  exact ⟨i, m, r, (upd_ne n).trans e, z⟩
theorem St3.ne {H : Hp} {st a p : Addr} (h : St3 H st a) (n : H p = none) : st ≠ p := by
  obtain ⟨i, m, r, e, z⟩ := h
  exact ne_of_none e n
def spDrawn (K : PySem.W.Frag) : Sp := fun vs H Q _ => ∃ (st a : Addr) (many : Int) (ns : List Int), vs = [.ref st, .int many] ∧ 0 < many ∧ many < 1000000 ∧ St3 H st a ∧ Scr K H st a ns ∧
  ∀ (v : Int) (H' : Hp), 0 ≤ v → v < many → St3 H' st a → Oth st H H' → Q (.int v) H'
theorem ok_drawn (D : DefAt K mg "_law_drawn" sD__law_drawn) (T : Txt w K mg) : Cal P w K mg base 1 "_law_drawn" (spDrawn K) [] := by
  refine cal_of D sc__law_drawn (fun _ _ _ _ _ _ us hl => match us, hl with | [_, _], _ => rfl) (fun vs H Q E h => ?_) (fun cdv A outer s H vs Q E hr h => ?_)
  · obtain ⟨st, a, many, ns, rfl, _⟩ := h
    rfl
  · obtain ⟨st, a, many, ns, rfl, m0, m1, ⟨i, m, r, hst, i0⟩, hSc, kk⟩ := h
    have k : ∀ v i' m' r', 0 ≤ v → v < many → 0 ≤ i' → Q (.int v) (upd H st (.lst (stt a i' m' r'))) := fun v i' m' r' h1 h2 h3 => kk v _ h1 h2 ⟨i', m', r', upd_same, h3⟩ fun q n => upd_ne n
    have hS := hSc.seq
    refine ⟨_, (pss_cons (ps_if (pt_cmpR op_gt (pe_ix ix_list (pv 0) pe_int (fun _ _ => rfl)) pe_int (nomark _))
   (pss_cons (ps_set (i := 2) sc__law_drawn.nd rfl (Or.inl rfl) (pe_op op_mod (pe_ix ix_list (pv 0) pe_int (fun _ _ => rfl)) (pv 1)))
  (pss_cons (ps_asg (pe_op op_fdiv (pe_ix ix_list (pv 0) pe_int (fun _ _ => rfl)) (pv 1)) (pg_sub (pv 0) pe_int set_list))
  (pss_one (ps_ret (pv 2)))))
   pss_nil)
  (pss_cons (ps_asg (pe_op op_add (pe_ix ix_list (pv 0) pe_int (fun _ _ => rfl)) pe_int) (pg_sub (pv 0) pe_int set_list))
  (pss_cons (ps_if (pt_cmpR op_le (pe_ix ix_list (pv 0) pe_int (fun _ _ => rfl)) (pe_callB call_len_seq (by rfl) T.free_len (by decide +kernel) (pa_cons (pe_ix ix_list (pv 0) pe_int (fun _ _ => rfl)) pa_nil)) (nomark _))
   (pss_cons (ps_set (i := 3) sc__law_drawn.nd rfl (Or.inl rfl) (pe_ix ix_list (pe_ix ix_list (pv 0) pe_int (fun _ _ => rfl)) (pe_op op_sub (pe_ix ix_list (pv 0) pe_int (fun _ _ => rfl)) pe_int) (fun _ _ => rfl)))
  (pss_cons (ps_asg (pe_ifExp (pt_cmpR op_ge (pv 3) (pe_op op_pow pe_int pe_int) (nomark _)) (pe_op op_fdiv (pv 3) (pv 1)) pe_int) (pg_sub (pv 0) pe_int set_list))
  (pss_one (ps_ret (pe_op op_mod (pv 3) (pv 1))))))
   pss_nil)
  (pss_cons (ps_asg (pe_op op_mod (pe_op op_add (pe_op op_mul (pe_ix ix_list (pv 0) pe_int (fun _ _ => rfl)) pe_int) pe_int) pe_int) (pg_sub (pv 0) pe_int set_list))
  (pss_one (ps_ret (pe_op op_mod (pe_op op_fdiv (pe_ix ix_list (pv 0) pe_int (fun _ _ => rfl)) pe_int) (pv 1)))))))), ?_⟩
    refine ⟨_, rfl, st, _, _, _, rfl, rfl, SqL.of hst, atI_nat (j := 3) rfl, _, _, rfl, rfl, _, rfl, ?_⟩
    have md : ∀ z : Int, 0 ≤ z % many ∧ z % many < many := fun z => ⟨Int.emod_nonneg _ (by omega), Int.emod_lt_of_pos _ m0⟩
    refine ite2 (fun _ => ?_) (fun _ => ?_)
    · refine ⟨_, rfl, st, _, _, _, rfl, rfl, SqL.of hst, atI_nat (j := 3) rfl, _, rfl, _, _, rfl, rfl, m0, ?_⟩
      refine ⟨_, rfl, st, _, _, _, rfl, rfl, SqL.of hst, atI_nat (j := 3) rfl, _, rfl, _, _, rfl, rfl, ⟨m0, by omega⟩, _, rfl, st, _, _, 3, rfl, rfl, hst, rfl, ?_⟩
      exact ⟨_, rfl, k _ _ _ _ (md r).1 (md r).2 i0⟩
    · refine ⟨_, rfl, st, _, _, _, rfl, rfl, SqL.of hst, atI_nat (j := 1) rfl, _, _, rfl, rfl, _, rfl, st, _, _, 1, rfl, rfl, hst, rfl, ?_⟩
      have h1 : L2.upd H st (.lst ((stt a i m r).set 1 (.int (i + 1)))) st = some (.lst (stt a (i + 1) m r)) := upd_same
      have hS1 := (hSc.pr (Pr.at (o := .lst ((stt a i m r).set 1 (.int (i + 1)))) (Pr.refl st H))).seq
      refine ⟨_, rfl, st, _, _, _, rfl, rfl, SqL.of h1, atI_nat (j := 1) rfl, _, rfl, st, _, _, _, rfl, rfl, SqL.of h1, atI_nat (j := 0) rfl, a, _, rfl, .inl hS1, _, _, rfl, rfl, _, rfl, ?_⟩
      rw [List.length_map]
      by_cases hle : i + 1 ≤ (ns.length : Int)
      · rw [decide_eq_true hle]
        refine iteT ⟨_, rfl, st, _, _, _, rfl, rfl, SqL.of h1, atI_nat (j := 0) rfl, _, rfl, st, _, _, _, rfl, rfl, SqL.of h1, atI_nat (j := 1) rfl, _, _, rfl, rfl, a, _, _, _, rfl, rfl, hS1, ints_atI (by omega) (by omega), ?_⟩
        refine ⟨_, rfl, _, _, rfl, rfl, ⟨by decide, by decide, by decide⟩, _, _, rfl, rfl, _, rfl, ?_⟩
        refine ite2 (fun _ => ?_) (fun _ => ?_)
        · refine ⟨_, rfl, _, rfl, _, _, rfl, rfl, ⟨m0, by omega⟩, _, rfl, st, _, _, 3, rfl, rfl, h1, rfl, ?_⟩
          rw [upd_upd]
          exact ⟨_, rfl, _, rfl, _, _, rfl, rfl, m0, k _ _ _ _ (md _).1 (md _).2 (by omega)⟩
        · refine ⟨_, rfl, st, _, _, 3, rfl, rfl, h1, rfl, ?_⟩
          rw [upd_upd]
          exact ⟨_, rfl, _, rfl, _, _, rfl, rfl, m0, k _ _ _ _ (md _).1 (md _).2 (by omega)⟩
      · rw [decide_eq_false hle]
        refine iteF ⟨_, rfl, st, _, _, _, rfl, rfl, SqL.of h1, atI_nat (j := 2) rfl, _, _, rfl, rfl, .inr ⟨by decide, by decide⟩, _, _, rfl, rfl, _, _, rfl, rfl, (by show (0 : Int) < 2147483647; decide), _, rfl, st, _, _, 2, rfl, rfl, h1, rfl, ?_⟩
        rw [upd_upd]
        refine ⟨_, rfl, st, _, _, _, rfl, rfl, SqL.of upd_same, atI_nat (j := 2) rfl, _, _, rfl, rfl, ⟨by decide, by decide⟩, _, rfl, _, _, rfl, rfl, m0, k _ _ _ _ (md _).1 (md _).2 (by omega)⟩
def ctup (c : Code) : List V := [.str c.1.str, .int c.2.1, .int c.2.2.1, .int c.2.2.2]
def Cds (H : Hp) (ts : List Addr) (cs : List Code) : Prop := ts.length = cs.length ∧ ∀ (i : Nat) (t : Addr) (c : Code), ts[i]? = some t → cs[i]? = some c → H t = some (.tup (ctup c))
theorem Cds.mono {H H' : Hp} {ts : List Addr} {cs : List Code} (h : Cds H ts cs) (s : Same H H') : Cds H' ts cs := ⟨h.1, fun i t c a b => s _ _ (h.2 i t c a b)⟩
theorem Cds.snoc {H : Hp} {ts : List Addr} {cs : List Code} {t : Addr} (h : Cds H ts cs) (c : Code) (n : H t = none) : Cds (upd H t (.tup (ctup c))) (ts ++ [t]) (cs ++ [c]) := by
  refine ⟨by rw [List.length_append, List.length_append, h.1] <;> rfl, fun i u d a b => ?_⟩
  by_cases q : i < ts.length
  · rw [List.getElem?_append_left q] at a
    rw [List.getElem?_append_left (by rw [← h.1]; exact q)] at b
    exact Same.new n _ _ (h.2 i u d a b)
  · rw [List.getElem?_append_right (by omega)] at a
    rw [List.getElem?_append_right (by rw [← h.1]; omega), ← h.1] at b
    cases e : i - ts.length with
    | zero =>
      rw [e] at a b
      cases a
      cases b
      exact upd_same
    | succ j =>
      rw [e] at a
      cases a
def spCodes : Sp := fun vs H Q _ => vs = [] ∧ ∀ (H' : Hp) (p : Addr) (ts : List Addr), Same H H' → H p = none → H' p = some (.lst (ts.map V.ref)) → Cds H' ts codes → Q (.ref p) H'
theorem ok_all_codes (D : DefAt K mg "_law_all_codes" sD__law_all_codes) : Cal P w K mg base 1 "_law_all_codes" spCodes [] := by
  refine cal_of D sc__law_all_codes (fun _ _ _ _ _ _ us hl => match us, hl with | [], _ => rfl) (fun vs H Q E h => ?_) (fun cdv A outer s H vs Q E hr h => ?_)
  · obtain ⟨rfl, _⟩ := h
    rfl
  · obtain ⟨rfl, k⟩ := h
    refine ⟨_, (pss_cons (ps_set (i := 0) sc__law_all_codes.nd rfl (Or.inl rfl) (pe_lst (pa_cons (pe_tup (pa_cons pe_str (pa_cons pe_int (pa_cons pe_int (pa_cons pe_int pa_nil))))) (pa_cons (pe_tup (pa_cons pe_str (pa_cons pe_int (pa_cons pe_int (pa_cons pe_int pa_nil))))) (pa_cons (pe_tup (pa_cons pe_str (pa_cons pe_int (pa_cons pe_int (pa_cons pe_int pa_nil))))) (pa_cons (pe_tup (pa_cons pe_str (pa_cons pe_int (pa_cons pe_int (pa_cons pe_int pa_nil))))) (pa_cons (pe_tup (pa_cons pe_str (pa_cons pe_int (pa_cons pe_int (pa_cons pe_int pa_nil))))) pa_nil)))))))
  (pss_cons (ps_set (i := 0) sc__law_all_codes.nd rfl (Or.inl rfl) (pe_op op_cat (pv 0) (pe_lst (pa_cons (pe_tup (pa_cons pe_str (pa_cons pe_int (pa_cons pe_int (pa_cons pe_int pa_nil))))) (pa_cons (pe_tup (pa_cons pe_str (pa_cons pe_int (pa_cons pe_int (pa_cons pe_int pa_nil))))) (pa_cons (pe_tup (pa_cons pe_str (pa_cons pe_int (pa_cons pe_int (pa_cons pe_int pa_nil))))) (pa_cons (pe_tup (pa_cons pe_str (pa_cons pe_int (pa_cons pe_int (pa_cons pe_int pa_nil))))) (pa_cons (pe_tup (pa_cons pe_str (pa_cons pe_int (pa_cons pe_int (pa_cons pe_int pa_nil))))) pa_nil))))))))
  (pss_cons (ps_set (i := 0) sc__law_all_codes.nd rfl (Or.inl rfl) (pe_op op_cat (pv 0) (pe_lst (pa_cons (pe_tup (pa_cons pe_str (pa_cons pe_int (pa_cons pe_int (pa_cons pe_int pa_nil))))) (pa_cons (pe_tup (pa_cons pe_str (pa_cons pe_int (pa_cons pe_int (pa_cons pe_int pa_nil))))) (pa_cons (pe_tup (pa_cons pe_str (pa_cons pe_int (pa_cons pe_int (pa_cons pe_int pa_nil))))) (pa_cons (pe_tup (pa_cons pe_str (pa_cons pe_int (pa_cons pe_int (pa_cons pe_int pa_nil))))) pa_nil)))))))
  (pss_one (ps_ret (pe_op op_cat (pv 0) (pe_lst (pa_cons (pe_tup (pa_cons pe_str (pa_cons pe_int (pa_cons pe_int (pa_cons pe_int pa_nil))))) pa_nil)))))))), ?_⟩
    have sG0 : Same H H := Same.refl H
    have cG0 : Cds H [] [] := ⟨rfl, fun i t c a => by cases a⟩
    refine ⟨(by show 4 ≤ sizeLine; decide), fun t0 h0 => ?_⟩
    have sG1 : Same H (upd H t0 (.tup [.str "stop", .int 0, .int 0, .int 0])) := sG0.add h0
    have cG1 : Cds (upd H t0 (.tup [.str "stop", .int 0, .int 0, .int 0])) ([] ++ [t0]) ([] ++ [(.stop, 0, 0, 0)]) := cG0.snoc (.stop, 0, 0, 0) h0
    generalize upd H t0 (.tup [.str "stop", .int 0, .int 0, .int 0]) = G1 at sG1 cG1 ⊢
    refine ⟨(by show 4 ≤ sizeLine; decide), fun t1 h1 => ?_⟩
    have sG2 : Same H (upd G1 t1 (.tup [.str "back", .int 1, .int 0, .int 0])) := sG1.add h1
    have cG2 : Cds (upd G1 t1 (.tup [.str "back", .int 1, .int 0, .int 0])) ([t0] ++ [t1]) ([(.stop, 0, 0, 0)] ++ [(.back, 1, 0, 0)]) := cG1.snoc (.back, 1, 0, 0) h1
    generalize upd G1 t1 (.tup [.str "back", .int 1, .int 0, .int 0]) = G2 at sG2 cG2 ⊢
    refine ⟨(by show 4 ≤ sizeLine; decide), fun t2 h2 => ?_⟩
    have sG3 : Same H (upd G2 t2 (.tup [.str "say", .int 4, .int 1, .int 0])) := sG2.add h2
    have cG3 : Cds (upd G2 t2 (.tup [.str "say", .int 4, .int 1, .int 0])) ([t0, t1] ++ [t2]) ([(.stop, 0, 0, 0), (.back, 1, 0, 0)] ++ [(.say, 4, 1, 0)]) := cG2.snoc (.say, 4, 1, 0) h2
    generalize upd G2 t2 (.tup [.str "say", .int 4, .int 1, .int 0]) = G3 at sG3 cG3 ⊢
    refine ⟨(by show 4 ≤ sizeLine; decide), fun t3 h3 => ?_⟩
    have sG4 : Same H (upd G3 t3 (.tup [.str "take!", .int 16, .int 1, .int 1])) := sG3.add h3
    have cG4 : Cds (upd G3 t3 (.tup [.str "take!", .int 16, .int 1, .int 1])) ([t0, t1, t2] ++ [t3]) ([(.stop, 0, 0, 0), (.back, 1, 0, 0), (.say, 4, 1, 0)] ++ [(.takeL, 16, 1, 1)]) := cG3.snoc (.takeL, 16, 1, 1) h3
    generalize upd G3 t3 (.tup [.str "take!", .int 16, .int 1, .int 1]) = G4 at sG4 cG4 ⊢
    refine ⟨(by show 4 ≤ sizeLine; decide), fun t4 h4 => ?_⟩
    have sG5 : Same H (upd G4 t4 (.tup [.str "move", .int 32, .int 2, .int 0])) := sG4.add h4
    have cG5 : Cds (upd G4 t4 (.tup [.str "move", .int 32, .int 2, .int 0])) ([t0, t1, t2, t3] ++ [t4]) ([(.stop, 0, 0, 0), (.back, 1, 0, 0), (.say, 4, 1, 0), (.takeL, 16, 1, 1)] ++ [(.move, 32, 2, 0)]) := cG4.snoc (.move, 32, 2, 0) h4
    generalize upd G4 t4 (.tup [.str "move", .int 32, .int 2, .int 0]) = G5 at sG5 cG5 ⊢
    refine ⟨(by show 5 ≤ sizeLine; decide), fun l0 hl0 => ?_⟩
    have sL0 : Same H (upd G5 l0 (.lst [.ref t0, .ref t1, .ref t2, .ref t3, .ref t4])) := sG5.add hl0
    have cL0 := cG5.mono (Same.new (o := .lst [.ref t0, .ref t1, .ref t2, .ref t3, .ref t4]) hl0)
    have pL0 : (upd G5 l0 (.lst [.ref t0, .ref t1, .ref t2, .ref t3, .ref t4])) l0 = some (.lst [.ref t0, .ref t1, .ref t2, .ref t3, .ref t4]) := upd_same
    have zL0 : H l0 = none := sG5.free hl0
    generalize upd G5 l0 (.lst [.ref t0, .ref t1, .ref t2, .ref t3, .ref t4]) = L0 at sL0 cL0 pL0 ⊢
    refine ⟨_, rfl, ?_⟩
    refine ⟨(by show 4 ≤ sizeLine; decide), fun t5 h5 => ?_⟩
    have sG6 : Same H (upd L0 t5 (.tup [.str "add", .int 48, .int 2, .int 0])) := sL0.add h5
    have cG6 : Cds (upd L0 t5 (.tup [.str "add", .int 48, .int 2, .int 0])) ([t0, t1, t2, t3, t4] ++ [t5]) ([(.stop, 0, 0, 0), (.back, 1, 0, 0), (.say, 4, 1, 0), (.takeL, 16, 1, 1), (.move, 32, 2, 0)] ++ [(.add, 48, 2, 0)]) := cL0.snoc (.add, 48, 2, 0) h5
    have qG6 := Same.new (o := .tup [.str "add", .int 48, .int 2, .int 0]) h5 _ _ pL0
    generalize upd L0 t5 (.tup [.str "add", .int 48, .int 2, .int 0]) = G6 at sG6 cG6 qG6 ⊢
    refine ⟨(by show 4 ≤ sizeLine; decide), fun t6 h6 => ?_⟩
    have sG7 : Same H (upd G6 t6 (.tup [.str "less", .int 64, .int 2, .int 0])) := sG6.add h6
    have cG7 : Cds (upd G6 t6 (.tup [.str "less", .int 64, .int 2, .int 0])) ([t0, t1, t2, t3, t4, t5] ++ [t6]) ([(.stop, 0, 0, 0), (.back, 1, 0, 0), (.say, 4, 1, 0), (.takeL, 16, 1, 1), (.move, 32, 2, 0), (.add, 48, 2, 0)] ++ [(.less, 64, 2, 0)]) := cG6.snoc (.less, 64, 2, 0) h6
    have qG7 := Same.new (o := .tup [.str "less", .int 64, .int 2, .int 0]) h6 _ _ qG6
    generalize upd G6 t6 (.tup [.str "less", .int 64, .int 2, .int 0]) = G7 at sG7 cG7 qG7 ⊢
    refine ⟨(by show 4 ≤ sizeLine; decide), fun t7 h7 => ?_⟩
    have sG8 : Same H (upd G7 t7 (.tup [.str "load", .int 80, .int 1, .int 1])) := sG7.add h7
    have cG8 : Cds (upd G7 t7 (.tup [.str "load", .int 80, .int 1, .int 1])) ([t0, t1, t2, t3, t4, t5, t6] ++ [t7]) ([(.stop, 0, 0, 0), (.back, 1, 0, 0), (.say, 4, 1, 0), (.takeL, 16, 1, 1), (.move, 32, 2, 0), (.add, 48, 2, 0), (.less, 64, 2, 0)] ++ [(.load, 80, 1, 1)]) := cG7.snoc (.load, 80, 1, 1) h7
    have qG8 := Same.new (o := .tup [.str "load", .int 80, .int 1, .int 1]) h7 _ _ qG7
    generalize upd G7 t7 (.tup [.str "load", .int 80, .int 1, .int 1]) = G8 at sG8 cG8 qG8 ⊢
    refine ⟨(by show 4 ≤ sizeLine; decide), fun t8 h8 => ?_⟩
    have sG9 : Same H (upd G8 t8 (.tup [.str "store", .int 84, .int 1, .int 1])) := sG8.add h8
    have cG9 : Cds (upd G8 t8 (.tup [.str "store", .int 84, .int 1, .int 1])) ([t0, t1, t2, t3, t4, t5, t6, t7] ++ [t8]) ([(.stop, 0, 0, 0), (.back, 1, 0, 0), (.say, 4, 1, 0), (.takeL, 16, 1, 1), (.move, 32, 2, 0), (.add, 48, 2, 0), (.less, 64, 2, 0), (.load, 80, 1, 1)] ++ [(.store, 84, 1, 1)]) := cG8.snoc (.store, 84, 1, 1) h8
    have qG9 := Same.new (o := .tup [.str "store", .int 84, .int 1, .int 1]) h8 _ _ qG8
    generalize upd G8 t8 (.tup [.str "store", .int 84, .int 1, .int 1]) = G9 at sG9 cG9 qG9 ⊢
    refine ⟨(by show 4 ≤ sizeLine; decide), fun t9 h9 => ?_⟩
    have sG10 : Same H (upd G9 t9 (.tup [.str "jump", .int 96, .int 0, .int 1])) := sG9.add h9
    have cG10 : Cds (upd G9 t9 (.tup [.str "jump", .int 96, .int 0, .int 1])) ([t0, t1, t2, t3, t4, t5, t6, t7, t8] ++ [t9]) ([(.stop, 0, 0, 0), (.back, 1, 0, 0), (.say, 4, 1, 0), (.takeL, 16, 1, 1), (.move, 32, 2, 0), (.add, 48, 2, 0), (.less, 64, 2, 0), (.load, 80, 1, 1), (.store, 84, 1, 1)] ++ [(.jump, 96, 0, 1)]) := cG9.snoc (.jump, 96, 0, 1) h9
    have qG10 := Same.new (o := .tup [.str "jump", .int 96, .int 0, .int 1]) h9 _ _ qG9
    generalize upd G9 t9 (.tup [.str "jump", .int 96, .int 0, .int 1]) = G10 at sG10 cG10 qG10 ⊢
    refine ⟨(by show 5 ≤ sizeLine; decide), fun l1 hl1 => ?_⟩
    have sL1 : Same H (upd G10 l1 (.lst [.ref t5, .ref t6, .ref t7, .ref t8, .ref t9])) := sG10.add hl1
    have cL1 := cG10.mono (Same.new (o := .lst [.ref t5, .ref t6, .ref t7, .ref t8, .ref t9]) hl1)
    have pL1 : (upd G10 l1 (.lst [.ref t5, .ref t6, .ref t7, .ref t8, .ref t9])) l1 = some (.lst [.ref t5, .ref t6, .ref t7, .ref t8, .ref t9]) := upd_same
    have zL1 : H l1 = none := sG10.free hl1
    have qL1 := Same.new (o := .lst [.ref t5, .ref t6, .ref t7, .ref t8, .ref t9]) hl1 _ _ qG10
    generalize upd G10 l1 (.lst [.ref t5, .ref t6, .ref t7, .ref t8, .ref t9]) = L1 at sL1 cL1 pL1 qL1 ⊢
    refine ⟨l0, l1, _, _, rfl, rfl, qL1, pL1, (by show 10 ≤ sizeLine; decide), fun m1 hm1 => ?_⟩
    have sC1 : Same H (upd L1 m1 (.lst ([.ref t0, .ref t1, .ref t2, .ref t3, .ref t4] ++ [.ref t5, .ref t6, .ref t7, .ref t8, .ref t9]))) := sL1.add hm1
    have cC1 := cL1.mono (Same.new (o := .lst ([.ref t0, .ref t1, .ref t2, .ref t3, .ref t4] ++ [.ref t5, .ref t6, .ref t7, .ref t8, .ref t9])) hm1)
    have pC1 : (upd L1 m1 (.lst ([.ref t0, .ref t1, .ref t2, .ref t3, .ref t4] ++ [.ref t5, .ref t6, .ref t7, .ref t8, .ref t9]))) m1 = some (.lst [.ref t0, .ref t1, .ref t2, .ref t3, .ref t4, .ref t5, .ref t6, .ref t7, .ref t8, .ref t9]) := upd_same
    have zC1 : H m1 = none := sL1.free hm1
    generalize upd L1 m1 (.lst ([.ref t0, .ref t1, .ref t2, .ref t3, .ref t4] ++ [.ref t5, .ref t6, .ref t7, .ref t8, .ref t9])) = C1 at sC1 cC1 pC1 ⊢
    refine ⟨_, rfl, ?_⟩
    refine ⟨(by show 4 ≤ sizeLine; decide), fun t10 h10 => ?_⟩
    have sG11 : Same H (upd C1 t10 (.tup [.str "call", .int 97, .int 0, .int 1])) := sC1.add h10
    have cG11 : Cds (upd C1 t10 (.tup [.str "call", .int 97, .int 0, .int 1])) ([t0, t1, t2, t3, t4, t5, t6, t7, t8, t9] ++ [t10]) ([(.stop, 0, 0, 0), (.back, 1, 0, 0), (.say, 4, 1, 0), (.takeL, 16, 1, 1), (.move, 32, 2, 0), (.add, 48, 2, 0), (.less, 64, 2, 0), (.load, 80, 1, 1), (.store, 84, 1, 1), (.jump, 96, 0, 1)] ++ [(.call, 97, 0, 1)]) := cC1.snoc (.call, 97, 0, 1) h10
    have qG11 := Same.new (o := .tup [.str "call", .int 97, .int 0, .int 1]) h10 _ _ pC1
    generalize upd C1 t10 (.tup [.str "call", .int 97, .int 0, .int 1]) = G11 at sG11 cG11 qG11 ⊢
    refine ⟨(by show 4 ≤ sizeLine; decide), fun t11 h11 => ?_⟩
    have sG12 : Same H (upd G11 t11 (.tup [.str "skip", .int 99, .int 0, .int 1])) := sG11.add h11
    have cG12 : Cds (upd G11 t11 (.tup [.str "skip", .int 99, .int 0, .int 1])) ([t0, t1, t2, t3, t4, t5, t6, t7, t8, t9, t10] ++ [t11]) ([(.stop, 0, 0, 0), (.back, 1, 0, 0), (.say, 4, 1, 0), (.takeL, 16, 1, 1), (.move, 32, 2, 0), (.add, 48, 2, 0), (.less, 64, 2, 0), (.load, 80, 1, 1), (.store, 84, 1, 1), (.jump, 96, 0, 1), (.call, 97, 0, 1)] ++ [(.skip, 99, 0, 1)]) := cG11.snoc (.skip, 99, 0, 1) h11
    have qG12 := Same.new (o := .tup [.str "skip", .int 99, .int 0, .int 1]) h11 _ _ qG11
    generalize upd G11 t11 (.tup [.str "skip", .int 99, .int 0, .int 1]) = G12 at sG12 cG12 qG12 ⊢
    refine ⟨(by show 4 ≤ sizeLine; decide), fun t12 h12 => ?_⟩
    have sG13 : Same H (upd G12 t12 (.tup [.str "zero", .int 100, .int 1, .int 1])) := sG12.add h12
    have cG13 : Cds (upd G12 t12 (.tup [.str "zero", .int 100, .int 1, .int 1])) ([t0, t1, t2, t3, t4, t5, t6, t7, t8, t9, t10, t11] ++ [t12]) ([(.stop, 0, 0, 0), (.back, 1, 0, 0), (.say, 4, 1, 0), (.takeL, 16, 1, 1), (.move, 32, 2, 0), (.add, 48, 2, 0), (.less, 64, 2, 0), (.load, 80, 1, 1), (.store, 84, 1, 1), (.jump, 96, 0, 1), (.call, 97, 0, 1), (.skip, 99, 0, 1)] ++ [(.zero, 100, 1, 1)]) := cG12.snoc (.zero, 100, 1, 1) h12
    have qG13 := Same.new (o := .tup [.str "zero", .int 100, .int 1, .int 1]) h12 _ _ qG12
    generalize upd G12 t12 (.tup [.str "zero", .int 100, .int 1, .int 1]) = G13 at sG13 cG13 qG13 ⊢
    refine ⟨(by show 4 ≤ sizeLine; decide), fun t13 h13 => ?_⟩
    have sG14 : Same H (upd G13 t13 (.tup [.str "same", .int 112, .int 2, .int 1])) := sG13.add h13
    have cG14 : Cds (upd G13 t13 (.tup [.str "same", .int 112, .int 2, .int 1])) ([t0, t1, t2, t3, t4, t5, t6, t7, t8, t9, t10, t11, t12] ++ [t13]) ([(.stop, 0, 0, 0), (.back, 1, 0, 0), (.say, 4, 1, 0), (.takeL, 16, 1, 1), (.move, 32, 2, 0), (.add, 48, 2, 0), (.less, 64, 2, 0), (.load, 80, 1, 1), (.store, 84, 1, 1), (.jump, 96, 0, 1), (.call, 97, 0, 1), (.skip, 99, 0, 1), (.zero, 100, 1, 1)] ++ [(.same, 112, 2, 1)]) := cG13.snoc (.same, 112, 2, 1) h13
    have qG14 := Same.new (o := .tup [.str "same", .int 112, .int 2, .int 1]) h13 _ _ qG13
    generalize upd G13 t13 (.tup [.str "same", .int 112, .int 2, .int 1]) = G14 at sG14 cG14 qG14 ⊢
    refine ⟨(by show 4 ≤ sizeLine; decide), fun l2 hl2 => ?_⟩
    have sL2 : Same H (upd G14 l2 (.lst [.ref t10, .ref t11, .ref t12, .ref t13])) := sG14.add hl2
    have cL2 := cG14.mono (Same.new (o := .lst [.ref t10, .ref t11, .ref t12, .ref t13]) hl2)
    have pL2 : (upd G14 l2 (.lst [.ref t10, .ref t11, .ref t12, .ref t13])) l2 = some (.lst [.ref t10, .ref t11, .ref t12, .ref t13]) := upd_same
    have zL2 : H l2 = none := sG14.free hl2
    have qL2 := Same.new (o := .lst [.ref t10, .ref t11, .ref t12, .ref t13]) hl2 _ _ qG14
    generalize upd G14 l2 (.lst [.ref t10, .ref t11, .ref t12, .ref t13]) = L2 at sL2 cL2 pL2 qL2 ⊢
    refine ⟨m1, l2, _, _, rfl, rfl, qL2, pL2, (by show 14 ≤ sizeLine; decide), fun m2 hm2 => ?_⟩
    have sC2 : Same H (upd L2 m2 (.lst ([.ref t0, .ref t1, .ref t2, .ref t3, .ref t4, .ref t5, .ref t6, .ref t7, .ref t8, .ref t9] ++ [.ref t10, .ref t11, .ref t12, .ref t13]))) := sL2.add hm2
    have cC2 := cL2.mono (Same.new (o := .lst ([.ref t0, .ref t1, .ref t2, .ref t3, .ref t4, .ref t5, .ref t6, .ref t7, .ref t8, .ref t9] ++ [.ref t10, .ref t11, .ref t12, .ref t13])) hm2)
    have pC2 : (upd L2 m2 (.lst ([.ref t0, .ref t1, .ref t2, .ref t3, .ref t4, .ref t5, .ref t6, .ref t7, .ref t8, .ref t9] ++ [.ref t10, .ref t11, .ref t12, .ref t13]))) m2 = some (.lst [.ref t0, .ref t1, .ref t2, .ref t3, .ref t4, .ref t5, .ref t6, .ref t7, .ref t8, .ref t9, .ref t10, .ref t11, .ref t12, .ref t13]) := upd_same
    have zC2 : H m2 = none := sL2.free hm2
    generalize upd L2 m2 (.lst ([.ref t0, .ref t1, .ref t2, .ref t3, .ref t4, .ref t5, .ref t6, .ref t7, .ref t8, .ref t9] ++ [.ref t10, .ref t11, .ref t12, .ref t13])) = C2 at sC2 cC2 pC2 ⊢
    refine ⟨_, rfl, ?_⟩
    refine ⟨(by show 4 ≤ sizeLine; decide), fun t14 h14 => ?_⟩
    have sG15 : Same H (upd C2 t14 (.tup [.str "copy", .int 128, .int 0, .int 2])) := sC2.add h14
    have cG15 : Cds (upd C2 t14 (.tup [.str "copy", .int 128, .int 0, .int 2])) ([t0, t1, t2, t3, t4, t5, t6, t7, t8, t9, t10, t11, t12, t13] ++ [t14]) ([(.stop, 0, 0, 0), (.back, 1, 0, 0), (.say, 4, 1, 0), (.takeL, 16, 1, 1), (.move, 32, 2, 0), (.add, 48, 2, 0), (.less, 64, 2, 0), (.load, 80, 1, 1), (.store, 84, 1, 1), (.jump, 96, 0, 1), (.call, 97, 0, 1), (.skip, 99, 0, 1), (.zero, 100, 1, 1), (.same, 112, 2, 1)] ++ [(.copy, 128, 0, 2)]) := cC2.snoc (.copy, 128, 0, 2) h14
    have qG15 := Same.new (o := .tup [.str "copy", .int 128, .int 0, .int 2]) h14 _ _ pC2
    generalize upd C2 t14 (.tup [.str "copy", .int 128, .int 0, .int 2]) = G15 at sG15 cG15 qG15 ⊢
    refine ⟨(by show 1 ≤ sizeLine; decide), fun l3 hl3 => ?_⟩
    have sL3 : Same H (upd G15 l3 (.lst [.ref t14])) := sG15.add hl3
    have cL3 := cG15.mono (Same.new (o := .lst [.ref t14]) hl3)
    have pL3 : (upd G15 l3 (.lst [.ref t14])) l3 = some (.lst [.ref t14]) := upd_same
    have zL3 : H l3 = none := sG15.free hl3
    have qL3 := Same.new (o := .lst [.ref t14]) hl3 _ _ qG15
    generalize upd G15 l3 (.lst [.ref t14]) = L3 at sL3 cL3 pL3 qL3 ⊢
    refine ⟨m2, l3, _, _, rfl, rfl, qL3, pL3, (by show 15 ≤ sizeLine; decide), fun m3 hm3 => ?_⟩
    have sC3 : Same H (upd L3 m3 (.lst ([.ref t0, .ref t1, .ref t2, .ref t3, .ref t4, .ref t5, .ref t6, .ref t7, .ref t8, .ref t9, .ref t10, .ref t11, .ref t12, .ref t13] ++ [.ref t14]))) := sL3.add hm3
    have cC3 := cL3.mono (Same.new (o := .lst ([.ref t0, .ref t1, .ref t2, .ref t3, .ref t4, .ref t5, .ref t6, .ref t7, .ref t8, .ref t9, .ref t10, .ref t11, .ref t12, .ref t13] ++ [.ref t14])) hm3)
    have pC3 : (upd L3 m3 (.lst ([.ref t0, .ref t1, .ref t2, .ref t3, .ref t4, .ref t5, .ref t6, .ref t7, .ref t8, .ref t9, .ref t10, .ref t11, .ref t12, .ref t13] ++ [.ref t14]))) m3 = some (.lst [.ref t0, .ref t1, .ref t2, .ref t3, .ref t4, .ref t5, .ref t6, .ref t7, .ref t8, .ref t9, .ref t10, .ref t11, .ref t12, .ref t13, .ref t14]) := upd_same
    have zC3 : H m3 = none := sL3.free hm3
    generalize upd L3 m3 (.lst ([.ref t0, .ref t1, .ref t2, .ref t3, .ref t4, .ref t5, .ref t6, .ref t7, .ref t8, .ref t9, .ref t10, .ref t11, .ref t12, .ref t13] ++ [.ref t14])) = C3 at sC3 cC3 pC3 ⊢
    exact k C3 m3 [t0, t1, t2, t3, t4, t5, t6, t7, t8, t9, t10, t11, t12, t13, t14] sC3 zC3 pC3 cC3
end
end Rs
namespace Rs
open PySem PySem.Spec PyProof.Rows L2 C8
theorem ite_tC {b : Bool} {x y : V} {σ : L2.St} {H : Hp} {Q : VK} (h : Q (if b = true then x else y) H) : if b = true then tC x σ H Q else tC y σ H Q := by
  cases b <;> exact h
def val (mm : Nat) (o t : Int) : Int := match mm with
  | 0 => 0
  | 1 => o
  | _ => 4 * o + t
theorem val_at {mm : Nat} (h : mm ≤ 2) (o t : Int) : ([V.int 0, V.int o, V.int (4 * o + t)] : List V)[mm]? = some (V.int (val mm o t)) := by
  match mm, h with
  | 0, _ => rfl
  | 1, _ => rfl
  | 2, _ => rfl
def cnt (c : Prop) [Decidable c] : Nat := if c then 4 else 1
theorem cnt_eq (c : Prop) [Decidable c] : (if decide c = true then V.int 4 else V.int 1) = V.int ((cnt c : Nat) : Int) := by
  unfold cnt
  by_cases h : c
  · rw [if_pos (decide_eq_true h), if_pos h] <;> rfl
  · rw [if_neg (by rw [decide_eq_false h]; decide), if_neg h] <;> rfl
theorem val_none {mm : Nat} {b n : Int} (hm : mm ≤ 2) (h : ∀ o t : Nat, o < cnt ((0 : Int) < (mm : Int)) → t < cnt ((1 : Int) < (mm : Int)) → n ≠ b + val mm o t) : ¬ (b ≤ n ∧ n < b + span mm) := by
  intro ⟨h1, h2⟩
  match mm, hm with
  | 0, _ =>
    have := h 0 0 (by decide) (by decide)
    have e1 : val 0 ((0 : Nat) : Int) ((0 : Nat) : Int) = 0 := rfl
    have e2 : span 0 = 1 := rfl
    omega
  | 1, _ =>
    have e2 : span 1 = 4 := rfl
    have := h (n - b).toNat 0 (by have : cnt ((0 : Int) < ((1 : Nat) : Int)) = 4 := rfl; omega) (by decide)
    have e1 : val 1 (((n - b).toNat : Nat) : Int) ((0 : Nat) : Int) = (((n - b).toNat : Nat) : Int) := rfl
    omega
  | 2, _ =>
    have e2 : span 2 = 16 := rfl
    have := h ((n - b) / 4).toNat ((n - b) % 4).toNat (by have : cnt ((0 : Int) < ((2 : Nat) : Int)) = 4 := rfl; omega) (by have : cnt ((1 : Int) < ((2 : Nat) : Int)) = 4 := rfl; omega)
    have e1 : val 2 ((((n - b) / 4).toNat : Nat) : Int) ((((n - b) % 4).toNat : Nat) : Int) = 4 * ((((n - b) / 4).toNat : Nat) : Int) + ((((n - b) % 4).toNat : Nat) : Int) := rfl
    omega
def pick (mm : Nat) (o t : Int) : List Int := match mm with
  | 0 => []
  | 1 => [o]
  | _ => [o, t]
theorem val_in {mm : Nat} {b n : Int} {o t : Nat} (hm : mm ≤ 2) (ho : o < cnt ((0 : Int) < (mm : Int))) (ht : t < cnt ((1 : Int) < (mm : Int))) (e : n = b + val mm o t) : (b ≤ n ∧ n < b + span mm) ∧ boxesOf b mm n = pick mm o t := by
  match mm, hm with
  | 0, _ =>
    have e1 : val 0 (o : Int) (t : Int) = 0 := rfl
    have e2 : span 0 = 1 := rfl
    exact ⟨by omega, rfl⟩
  | 1, _ =>
    have e1 : val 1 (o : Int) (t : Int) = o := rfl
    have e2 : span 1 = 4 := rfl
    have : cnt ((0 : Int) < ((1 : Nat) : Int)) = 4 := rfl
    refine ⟨by omega, ?_⟩
    show [n - b] = [(o : Int)]
    rw [show n - b = (o : Int) by omega]
  | 2, _ =>
    have e1 : val 2 (o : Int) (t : Int) = 4 * (o : Int) + (t : Int) := rfl
    have e2 : span 2 = 16 := rfl
    have : cnt ((0 : Int) < ((2 : Nat) : Int)) = 4 := rfl
    have : cnt ((1 : Int) < ((2 : Nat) : Int)) = 4 := rfl
    refine ⟨by omega, ?_⟩
    show [(n - b) / 4, (n - b) % 4] = [(o : Int), (t : Int)]
    rw [show (n - b) / 4 = (o : Int) by omega, show (n - b) % 4 = (t : Int) by omega]
section
variable {P : Program} {w : World} {K : PySem.W.Frag} {mg : Str → Option Value} {base : Heap}
def spRead : Sp := fun vs H Q _ => ∃ (a : Addr) (ws : List Int) (p : Int), vs = [.ref a, .int p] ∧ H a = some (.lst (il ws)) ∧ ws.length ≤ 256 ∧
  (rowAt ws p = none → ∀ H', Same H H' → Q .non H') ∧ ∀ r, rowAt ws p = some r → ∀ H' t b n, Same H H' → H t = none → H b = none → H n = none → H' t = some (.tup [.str r.k.str, .ref b, .ref n, .int (r.size : Nat)]) → H' b = some (.lst (il r.bx)) → H' n = some (.lst (il r.nm)) → Q (.ref t) H'
theorem ok_read (D : DefAt K mg "_law_read" sD__law_read) (T : Txt w K mg) (c__law_all_codes : Cal P w K mg base 1 "_law_all_codes" spCodes []) : Cal P w K mg base 2 "_law_read" spRead [] := by
  refine cal_of D sc__law_read (fun _ _ _ _ _ _ us hl => match us, hl with | [_, _], _ => rfl) (fun vs H Q E h => ?_) (fun cdv A outer s H vs Q E hr h => ?_)
  · obtain ⟨c, n, p, rfl, _⟩ := h
    rfl
  · obtain ⟨a, ws, p, rfl, hS, hl, k0, k⟩ := h
    refine ⟨_, (pss_cut (ps_if (pt_not (pt_chain op_le op_lt pe_int (pv 1) (pe_callB call_len_seq (by rfl) T.free_len (by decide +kernel) (pa_cons (pv 0) pa_nil))))
   (pss_one (ps_ret pe_non))
   pss_nil)
  (pss_cons (ps_set (i := 2) sc__law_read.nd rfl (Or.inl rfl) (pe_ix ix_list (pv 0) (pv 1) (fun _ _ => rfl)))
  (pss_cut (ps_if (pt_chain op_le op_lt pe_int (pv 2) pe_int)
   (pss_one (ps_ret (pe_tup (pa_cons pe_str (pa_cons (pe_lst (pa_cons (pe_op op_fdiv (pe_op op_sub (pv 2) pe_int) pe_int) pa_nil)) (pa_cons (pe_lst (pa_cons (pe_op op_mod (pe_op op_sub (pv 2) pe_int) pe_int) pa_nil)) (pa_cons pe_int pa_nil)))))))
   pss_nil)
  (pss_cons (ps_for PassesOwn.never rfl (pi_list (pe_c0 c__law_all_codes hr (by decide) (by rfl))) (pg_tup rfl (pgs_cons (pg_name (i := 3) sc__law_read.nd rfl (Or.inl rfl)) (pgs_cons (pg_name (i := 4) sc__law_read.nd rfl (Or.inl rfl)) (pgs_cons (pg_name (i := 5) sc__law_read.nd rfl (Or.inl rfl)) (pgs_cons (pg_name (i := 6) sc__law_read.nd rfl (Or.inl rfl)) pgs_nil)))))
   (pss_one (ps_for PassesOwn.never rfl (pi_range1 (by rfl) T.free_range (pa_cons (pe_ifExp (pt_cmpR op_gt (pv 5) pe_int (nomark _)) pe_int pe_int) pa_nil)) (pg_name (i := 7) sc__law_read.nd rfl (Or.inl rfl))
   (pss_one (ps_for PassesOwn.never rfl (pi_range1 (by rfl) T.free_range (pa_cons (pe_ifExp (pt_cmpR op_gt (pv 5) pe_int (nomark _)) pe_int pe_int) pa_nil)) (pg_name (i := 8) sc__law_read.nd rfl (Or.inl rfl))
   (pss_one (ps_if (pt_cmpR op_eq (pv 2) (pe_op op_add (pv 4) (pe_ix ix_list (pe_lst (pa_cons pe_int (pa_cons (pv 7) (pa_cons (pe_op op_add (pe_op op_mul pe_int (pv 7)) (pv 8)) pa_nil)))) (pv 5) (fun _ _ => rfl))) (nomark _))
   (pss_cons (ps_if (pt_cmpR op_ge (pe_op op_add (pv 1) (pv 6)) (pe_callB call_len_seq (by rfl) T.free_len (by decide +kernel) (pa_cons (pv 0) pa_nil)) (nomark _))
   (pss_one (ps_ret pe_non))
   pss_nil)
  (pss_one (ps_ret (pe_tup (pa_cons (pv 3) (pa_cons (pe_ix ix_list (pe_lst (pa_cons (pe_lst pa_nil) (pa_cons (pe_lst (pa_cons (pv 7) pa_nil)) (pa_cons (pe_lst (pa_cons (pv 7) (pa_cons (pv 8) pa_nil))) pa_nil)))) (pv 5) (fun _ _ => rfl)) (pa_cons (pe_slice sl_list (pv 0) (po_some (pe_op op_add (pv 1) pe_int)) (po_some (pe_op op_add (pe_op op_add (pv 1) pe_int) (pv 6)))) (pa_cons (pe_op op_add pe_int (pv 6)) pa_nil))))))))
   pss_nil)))))))
  (pss_one (ps_ret pe_non)))))), ?_⟩
    refine ⟨fun σ' H' => σ' = start N__law_read [.ref a, .int p] ∧ H = H' ∧ (0 ≤ p ∧ p < (ws.length : Int)), ?_, ?_⟩
    · refine ⟨_, rfl, _, _, rfl, rfl, _, rfl, ?_⟩
      by_cases h1 : 0 ≤ p
      · rw [decide_eq_true h1]
        refine iteT ⟨_, rfl, a, _, rfl, .inl (SqL.of hS), _, _, rfl, rfl, _, rfl, ?_⟩
        rw [List.length_map]
        by_cases h2 : p < (ws.length : Int)
        · rw [decide_eq_true h2]
          exact iteF ⟨rfl, rfl, h1, h2⟩
        · rw [decide_eq_false h2]
          exact iteT (k0 (if_neg fun q => h2 q.2) _ (Same.refl _))
      · rw [decide_eq_false h1]
        exact iteF ⟨_, rfl, iteT (k0 (if_neg fun q => h1 q.1) _ (Same.refl _))⟩
    · rintro σ' H' ⟨rfl, rfl, hp⟩
      have er := rowAt_in hp
      refine ⟨_, rfl, _, rfl, a, _, _, _, rfl, rfl, SqL.of hS, ints_atI hp.1 hp.2, ?_⟩
      generalize hw : ws.getD p.toNat 0 = n at er
      refine ⟨fun σ' H' => σ' = [some (.ref a), some (.int p), some (.int n), none, none, none, none, none, none] ∧ H = H' ∧ ¬ (144 ≤ n ∧ n < 176), ?_, ?_⟩
      · refine ⟨_, rfl, _, _, rfl, rfl, _, rfl, ?_⟩
        by_cases h1 : 144 ≤ n
        · rw [decide_eq_true h1]
          refine iteT ⟨_, _, rfl, rfl, _, rfl, ?_⟩
          by_cases h2 : n < 176
          · rw [decide_eq_true h2]
            rw [if_pos ⟨h1, h2⟩] at er
            refine iteT ?_
            refine ⟨_, rfl, _, _, rfl, rfl, _, _, rfl, rfl, ⟨by decide, by decide⟩, (by show 1 ≤ sizeLine; decide), fun b hb => ?_⟩
            refine ⟨_, rfl, _, _, rfl, rfl, _, _, rfl, rfl, (by show (0 : Int) < 8; decide), (by show 1 ≤ sizeLine; decide), fun m hm => ?_⟩
            refine ⟨(by show 4 ≤ sizeLine; decide), fun t ht => ?_⟩
            have s1 := Same.new (o := .lst [V.int ((n - 144) / 8)]) hb
            have s2 := s1.add (o := .lst [V.int ((n - 144) % 8)]) hm
            have hbm : b ≠ m := ne_of_none upd_same hm
            have hbt : b ≠ t := ne_of_none (Same.new hm _ _ upd_same) ht
            have hmt : m ≠ t := ne_of_none upd_same ht
            refine k _ er _ t b m (s2.add ht) (s2.free ht) hb (s1.free hm) upd_same ?_ ?_
            · rw [upd_ne hbt, upd_ne hbm, upd_same]
              rfl
            · rw [upd_ne hmt, upd_same]
              rfl
          · rw [decide_eq_false h2]
            exact iteF ⟨rfl, rfl, fun q => h2 q.2⟩
        · rw [decide_eq_false h1]
          exact iteF ⟨_, rfl, iteF ⟨rfl, rfl, fun q => h1 q.1⟩⟩
      · rintro σ' H' ⟨rfl, rfl, hnt⟩
        rw [if_neg hnt] at er
        refine ⟨rfl, fun H1 cl ts s1 z1 hcl hcd => ⟨cl, rfl, ⟨_, SqL.of hcl⟩, for_list (K := K) (a := cl) (xs := ts.map V.ref)
          (fun i σ H' => Same H1 H' ∧ findC (codes.drop i) n = findC codes n ∧ ∃ x3 x4 x5 x6 x7 x8, σ = [some (.ref a), some (.int p), some (.int n), x3, x4, x5, x6, x7, x8])
          ⟨Same.refl _, rfl, _, _, _, _, _, _, rfl⟩ (fun i σ H' _ ⟨e, _⟩ => SqL.of (e _ _ hcl)) ?_ ?_⟩⟩
        · rintro i x σ H2 hx ⟨s2, hf, x3, x4, x5, x6, x7, x8, rfl⟩
          rw [List.getElem?_map] at hx
          cases et : ts[i]? with
          | none =>
            rw [et] at hx
            cases hx
          | some t =>
            rw [et] at hx
            cases hx
            have hi : i < codes.length := by
              rw [← hcd.1]
              exact (List.getElem?_eq_some_iff.mp et).1
            obtain ⟨c, ec⟩ : ∃ c, codes[i]? = some c := ⟨_, List.getElem?_eq_getElem hi⟩
            have cm : c ∈ codes := List.mem_of_getElem? ec
            have ei := (List.getElem?_eq_some_iff.mp ec).2
            have htc := s2 _ _ (hcd.2 i t c et ec)
            obtain ⟨q1, q2, q3, q4⟩ := codes_ok c cm
            rw [List.drop_eq_getElem_cons hi, ei, findC_cons] at hf
            refine ⟨t, _, rfl, SqT.of htc, rfl, _, _, rfl, _, _, rfl, _, _, rfl, _, _, rfl, rfl, ?_⟩
            refine ⟨_, rfl, _, _, rfl, rfl, _, rfl, ite_tC ?_⟩
            rw [cnt_eq]
            have cb : ∀ (z : Prop) [Decidable z], cnt z ≤ 4 := fun z _ => by unfold cnt; split <;> omega
            have cb1 := cb ((0 : Int) < (c.2.2.1 : Int))
            have cb2 := cb ((1 : Int) < (c.2.2.1 : Int))
            refine ⟨_, rfl, by omega, by omega, for_range (n := cnt ((0 : Int) < (c.2.2.1 : Int)))
              (fun j σ H' => Same H1 H' ∧ (∀ o t : Nat, o < j → t < cnt ((1 : Int) < (c.2.2.1 : Int)) → n ≠ c.2.1 + val c.2.2.1 o t) ∧ ∃ x7 x8, σ = [some (.ref a), some (.int p), some (.int n), some (.str c.1.str), some (.int c.2.1), some (.int (c.2.2.1 : Nat)), some (.int (c.2.2.2 : Nat)), x7, x8])
              ⟨s2, fun o t h => absurd h (Nat.not_lt_zero _), _, _, rfl⟩ ?_ ?_⟩
            · rintro j σ H3 hj ⟨s3, hno, y7, y8, rfl⟩
              refine ⟨_, rfl, _, _, rfl, rfl, _, rfl, ite_tC ?_⟩
              rw [cnt_eq]
              refine ⟨_, rfl, by omega, by omega, for_range (n := cnt ((1 : Int) < (c.2.2.1 : Int)))
                (fun l σ H' => Same H1 H' ∧ (∀ t : Nat, t < l → n ≠ c.2.1 + val c.2.2.1 j t) ∧ ∃ x8, σ = [some (.ref a), some (.int p), some (.int n), some (.str c.1.str), some (.int c.2.1), some (.int (c.2.2.1 : Nat)), some (.int (c.2.2.2 : Nat)), some (.int (0 + (j : Int))), x8])
                ⟨s3, fun t h => absurd h (Nat.not_lt_zero _), _, rfl⟩ ?_ ?_⟩
              · rintro l σ H4 hlc ⟨s4, hnl, z8, rfl⟩
                refine ⟨_, rfl, _, rfl, _, rfl, _, rfl, _, _, rfl, rfl, .inl ⟨by decide, by decide⟩, _, rfl, _, _, rfl, rfl, (by show 3 ≤ sizeLine; decide), fun q hq => ?_⟩
                refine ⟨_, rfl, q, _, _, _, rfl, rfl, SqL.of upd_same, atI_nat (val_at q4 _ _), _, _, rfl, rfl, rfl, _, rfl, ?_⟩
                have e0 : ∀ z : Nat, (0 : Int) + (z : Int) = (z : Int) := fun z => by omega
                rw [e0, e0] at *
                by_cases he : n = c.2.1 + val c.2.2.1 j l
                · rw [decide_eq_true (congrArg V.int he)]
                  refine iteT ?_
                  obtain ⟨hin, ebx⟩ := val_in q4 hj hlc he
                  rw [if_pos hin] at hf
                  rw [← hf] at er
                  dsimp only at er
                  have s5 : Same H (upd H4 q (.lst [V.int 0, V.int (j : Int), V.int (4 * (j : Int) + (l : Int))])) := (s1.trans s4).add hq
                  generalize upd H4 q (.lst [V.int 0, V.int (j : Int), V.int (4 * (j : Int) + (l : Int))]) = H5 at s5 ⊢
                  have hS5 := s5 _ _ hS
                  refine ⟨_, rfl, _, rfl, _, _, rfl, rfl, _, rfl, a, _, rfl, .inl (SqL.of hS5), _, _, rfl, rfl, _, rfl, ?_⟩
                  rw [List.length_map]
                  by_cases hlen : (ws.length : Int) ≤ p + (c.2.2.2 : Int)
                  · rw [decide_eq_true hlen]
                    rw [if_pos (by omega)] at er
                    exact iteT (k0 er _ s5)
                  · rw [decide_eq_false hlen]
                    rw [if_neg (by omega)] at er
                    refine iteF ?_
                    refine ⟨_, rfl, Nat.zero_le _, fun e0 he0 => ?_⟩
                    refine ⟨_, rfl, (by show 1 ≤ sizeLine; decide), fun e1 he1 => ?_⟩
                    refine ⟨_, rfl, _, rfl, (by show 2 ≤ sizeLine; decide), fun e2 he2 => ?_⟩
                    have z0 : H e0 = none := s5.free he0
                    have s6 := s5.add (o := .lst []) he0
                    have z1' : H e1 = none := s6.free he1
                    have s7 := s6.add (o := .lst [V.int (j : Int)]) he1
                    have z2 : H e2 = none := s7.free he2
                    have s8 := s7.add (o := .lst [V.int (j : Int), V.int (l : Int)]) he2
                    have f2 : upd (upd (upd H5 e0 (.lst [])) e1 (.lst [V.int (j : Int)])) e2 (.lst [V.int (j : Int), V.int (l : Int)]) e2 = some (.lst (il [(j : Int), (l : Int)])) := upd_same
                    have f1 : upd (upd (upd H5 e0 (.lst [])) e1 (.lst [V.int (j : Int)])) e2 (.lst [V.int (j : Int), V.int (l : Int)]) e1 = some (.lst (il [(j : Int)])) := Same.new he2 _ _ upd_same
                    have f0 : upd (upd (upd H5 e0 (.lst [])) e1 (.lst [V.int (j : Int)])) e2 (.lst [V.int (j : Int), V.int (l : Int)]) e0 = some (.lst (il [])) := ((Same.refl _).add he1).add he2 _ _ upd_same
                    generalize upd (upd (upd H5 e0 (.lst [])) e1 (.lst [V.int (j : Int)])) e2 (.lst [V.int (j : Int), V.int (l : Int)]) = H8 at s8 f0 f1 f2 ⊢
                    refine ⟨(by show 3 ≤ sizeLine; decide), fun e3 he3 => ?_⟩
                    obtain ⟨eb, pk, zb, fb⟩ : ∃ eb, ([V.ref e0, V.ref e1, V.ref e2] : List V)[c.2.2.1]? = some (V.ref eb) ∧ H eb = none ∧ H8 eb = some (.lst (il (boxesOf c.2.1 c.2.2.1 n))) := by
                      rw [ebx]
                      generalize c.2.2.1 = mm at q4
                      match mm, q4 with
                      | 0, _ => exact ⟨e0, rfl, z0, f0⟩
                      | 1, _ => exact ⟨e1, rfl, z1', f1⟩
                      | 2, _ => exact ⟨e2, rfl, z2, f2⟩
                    refine ⟨_, rfl, e3, _, _, _, rfl, rfl, SqL.of upd_same, atI_nat pk, ?_⟩
                    have s9 := s8.add (o := .lst [V.ref e0, V.ref e1, V.ref e2]) he3
                    have fb9 := Same.new (o := .lst [V.ref e0, V.ref e1, V.ref e2]) he3 _ _ fb
                    generalize upd H8 e3 (.lst [V.ref e0, V.ref e1, V.ref e2]) = H9 at s9 fb9 ⊢
                    refine ⟨_, rfl, _, rfl, _, _, rfl, rfl, _, rfl, _, rfl, _, _, rfl, rfl, _, rfl, _, _, rfl, rfl, _, rfl, a, _, rfl, SqL.of (s9 _ _ hS), fun m hm => ?_⟩
                    refine ⟨_, rfl, _, _, rfl, rfl, (by show 4 ≤ sizeLine; decide), fun t ht => ?_⟩
                    have e1' : p + 1 = ((p.toNat + 1 : Nat) : Int) := by omega
                    have e2' : p + 1 + ((c.2.2.2 : Nat) : Int) = ((p.toNat + (1 + c.2.2.2) : Nat) : Int) := by omega
                    have ecut : cutV (il ws) (some (p + 1)) (some (p + 1 + ((c.2.2.2 : Nat) : Int))) = il ((ws.drop (p.toNat + 1)).take c.2.2.2) := by
                      rw [e2', e1', cut_il _ (by omega)]
                      congr 2
                      omega
                    rw [ecut] at ht ⊢
                    have s10 := s9.add (o := .lst (il ((ws.drop (p.toNat + 1)).take c.2.2.2))) hm
                    have hbm : eb ≠ m := ne_of_none fb9 hm
                    have hbt : eb ≠ t := ne_of_none (Same.new hm _ _ fb9) ht
                    have hmt : m ≠ t := ne_of_none upd_same ht
                    refine k _ er _ t eb m (s10.add ht) (s10.free ht) zb (s9.free hm) ?_ ?_ ?_
                    · rw [upd_same]
                      have e5 : ((1 + c.2.2.2 : Nat) : Int) = 1 + (c.2.2.2 : Int) := by omega
                      rw [e5]
                    · rw [upd_ne hbt, upd_ne hbm]
                      exact fb9
                    · rw [upd_ne hmt, upd_same]
                · rw [decide_eq_false (fun q => he (V.int.inj q))]
                  refine iteF ⟨s4.add hq, fun t ht => ?_, _, rfl⟩
                  by_cases q : t = l
                  · rw [q]
                    exact he
                  · exact hnl t (by omega)
              · rintro σ H4 ⟨s4, hnl, z8, rfl⟩
                refine ⟨s4, fun o t ho ht => ?_, _, _, rfl⟩
                by_cases q : o = j
                · rw [q]
                  exact hnl t ht
                · exact hno o t (by omega) ht
            · rintro σ H3 ⟨s3, hno, y7, y8, rfl⟩
              rw [if_neg (val_none q4 hno)] at hf
              exact ⟨s3, hf, _, _, _, _, _, _, rfl⟩
        · rintro σ H2 ⟨s2, hf, x3, x4, x5, x6, x7, x8, rfl⟩
          have e0 : codes.drop (ts.map V.ref).length = [] := by
            rw [List.length_map, hcd.1]
            exact List.drop_length
          rw [e0] at hf
          rw [← hf] at er
          exact k0 er _ (s1.trans s2)
end
end Rs
namespace Rs
open PySem PySem.Spec PyProof.Rows L2 C8
structure LAt (H0 H : Hp) (ac ab ak as ap : Addr) (cs bs ks ss ps : List Int) : Prop where
  c : H ac = some (.lst (il cs))
  b : H ab = some (.lst (il bs))
  k : H ak = some (.lst (il ks))
  s : H as = some (.lst (il ss))
  p : H ap = some (.lst (il ps))
  nd : [ac, ab, ak, as, ap].Nodup
  zc : H0 ac = none
  zb : H0 ab = none
  zs : H0 as = none
  zp : H0 ap = none
  sm : Same H0 H
section
variable {H0 H : Hp} {ac ab ak as ap : Addr} {cs bs ks ss ps : List Int}
theorem LAt.ne (h : LAt H0 H ac ab ak as ap cs bs ks ss ps) : (ac ≠ ab ∧ ac ≠ ak ∧ ac ≠ as ∧ ac ≠ ap) ∧ (ab ≠ ak ∧ ab ≠ as ∧ ab ≠ ap) ∧ (ak ≠ as ∧ ak ≠ ap) ∧ as ≠ ap := by
  have := h.nd
  simp only [List.nodup_cons, List.mem_cons, List.not_mem_nil, or_false, not_or] at this
  obtain ⟨⟨a1, a2, a3, a4⟩, ⟨b1, b2, b3⟩, ⟨c1, c2⟩, d1, _⟩ := this
  exact ⟨⟨a1, a2, a3, a4⟩, ⟨b1, b2, b3⟩, ⟨c1, c2⟩, d1⟩
theorem LAt.same {H' : Hp} (h : LAt H0 H ac ab ak as ap cs bs ks ss ps) (s : Same H H') : LAt H0 H' ac ab ak as ap cs bs ks ss ps := ⟨s _ _ h.c, s _ _ h.b, s _ _ h.k, s _ _ h.s, s _ _ h.p, h.nd, h.zc, h.zb, h.zs, h.zp, h.sm.trans s⟩
theorem LAt.setC (h : LAt H0 H ac ab ak as ap cs bs ks ss ps) (l : List Int) : LAt H0 (upd H ac (.lst (il l))) ac ab ak as ap l bs ks ss ps := by
  obtain ⟨⟨a1, a2, a3, a4⟩, ⟨b1, b2, b3⟩, ⟨c1, c2⟩, d1⟩ := h.ne
  exact ⟨upd_same, (upd_ne a1.symm).trans h.b, (upd_ne a2.symm).trans h.k, (upd_ne a3.symm).trans h.s, (upd_ne a4.symm).trans h.p, h.nd, h.zc, h.zb, h.zs, h.zp, h.sm.putNew h.zc⟩
theorem LAt.setB (h : LAt H0 H ac ab ak as ap cs bs ks ss ps) (l : List Int) : LAt H0 (upd H ab (.lst (il l))) ac ab ak as ap cs l ks ss ps := by
  obtain ⟨⟨a1, a2, a3, a4⟩, ⟨b1, b2, b3⟩, ⟨c1, c2⟩, d1⟩ := h.ne
  exact ⟨(upd_ne a1).trans h.c, upd_same, (upd_ne b1.symm).trans h.k, (upd_ne b2.symm).trans h.s, (upd_ne b3.symm).trans h.p, h.nd, h.zc, h.zb, h.zs, h.zp, h.sm.putNew h.zb⟩
theorem LAt.setS (h : LAt H0 H ac ab ak as ap cs bs ks ss ps) (l : List Int) : LAt H0 (upd H as (.lst (il l))) ac ab ak as ap cs bs ks l ps := by
  obtain ⟨⟨a1, a2, a3, a4⟩, ⟨b1, b2, b3⟩, ⟨c1, c2⟩, d1⟩ := h.ne
  exact ⟨(upd_ne a3).trans h.c, (upd_ne b2).trans h.b, (upd_ne c1).trans h.k, upd_same, (upd_ne d1.symm).trans h.p, h.nd, h.zc, h.zb, h.zs, h.zp, h.sm.putNew h.zs⟩
theorem LAt.setP (h : LAt H0 H ac ab ak as ap cs bs ks ss ps) (l : List Int) : LAt H0 (upd H ap (.lst (il l))) ac ab ak as ap cs bs ks ss l := by
  obtain ⟨⟨a1, a2, a3, a4⟩, ⟨b1, b2, b3⟩, ⟨c1, c2⟩, d1⟩ := h.ne
  exact ⟨(upd_ne a4).trans h.c, (upd_ne b3).trans h.b, (upd_ne c2).trans h.k, (upd_ne d1).trans h.s, upd_same, h.nd, h.zc, h.zb, h.zs, h.zp, h.sm.putNew h.zp⟩
theorem LAt.newK {l : List Int} {q : Addr} (h : LAt H0 H ac ab ak as ap cs bs ks ss ps) (n : H q = none) : LAt H0 (upd H q (.lst (il l))) ac ab q as ap cs bs l ss ps := by
  obtain ⟨⟨a1, a2, a3, a4⟩, ⟨b1, b2, b3⟩, ⟨c1, c2⟩, d1⟩ := h.ne
  have n1 := ne_of_none h.c n
  have n2 := ne_of_none h.b n
  have n3 := ne_of_none h.s n
  have n4 := ne_of_none h.p n
  refine ⟨(upd_ne n1).trans h.c, (upd_ne n2).trans h.b, upd_same, (upd_ne n3).trans h.s, (upd_ne n4).trans h.p, ?_, h.zc, h.zb, h.zs, h.zp, h.sm.add n⟩
  simp [a1, a3, a4, b2, b3, d1, n1, n2, n3.symm, n4.symm]
theorem LAt.apart {q : Addr} (h : LAt H0 H ac ab ak as ap cs bs ks ss ps) (n : H q = none) : q ≠ ac ∧ q ≠ ab ∧ q ≠ as ∧ q ≠ ap := ⟨(ne_of_none h.c n).symm, (ne_of_none h.b n).symm, (ne_of_none h.s n).symm, (ne_of_none h.p n).symm⟩
end
theorem in1 (k : Kd) : inV (V.str k.str) [V.str "take", V.str "take!", V.str "load"] = decide (k = .take ∨ k = .takeL ∨ k = .load) := by cases k <;> decide +kernel
theorem in2 (k : Kd) : inV (V.str k.str) [V.str "move", V.str "add", V.str "less"] = decide (k = .move ∨ k = .add ∨ k = .less) := by cases k <;> decide +kernel
theorem eq_load (k : Kd) : decide (V.str k.str = V.str "load") = decide (k = .load) := by cases k <;> decide +kernel
theorem eq_store (k : Kd) : decide (V.str k.str = V.str "store") = decide (k = .store) := by cases k <;> decide +kernel
theorem eq_copy (k : Kd) : decide (V.str k.str = V.str "copy") = decide (k = .copy) := by cases k <;> decide +kernel
theorem eq_say (k : Kd) : decide (V.str k.str = V.str "say") = decide (k = .say) := by cases k <;> decide +kernel
theorem eq_jump (k : Kd) : decide (V.str k.str = V.str "jump") = decide (k = .jump) := by cases k <;> decide +kernel
theorem eq_zero (k : Kd) : decide (V.str k.str = V.str "zero") = decide (k = .zero) := by cases k <;> decide +kernel
theorem eq_same (k : Kd) : decide (V.str k.str = V.str "same") = decide (k = .same) := by cases k <;> decide +kernel
theorem eq_skip (k : Kd) : decide (V.str k.str = V.str "skip") = decide (k = .skip) := by cases k <;> decide +kernel
theorem eq_call (k : Kd) : decide (V.str k.str = V.str "call") = decide (k = .call) := by cases k <;> decide +kernel
theorem eq_back (k : Kd) : decide (V.str k.str = V.str "back") = decide (k = .back) := by cases k <;> decide +kernel
theorem eq_stop (k : Kd) : decide (V.str k.str = V.str "stop") = decide (k = .stop) := by cases k <;> decide +kernel
theorem eq_v {a b : V} {x y : Prop} [Decidable x] (h : a = b ↔ x) : decide (a = b) = decide x := by simp [h]
/-! data -/
def dI (l : List Int) : List PyData := l.map PyData.int
theorem dp_all {K : PySem.W.Frag} {H : Hp} : ∀ l : List Int, DpAll K H (il l) (dI l)
  | [] => .nil
  | a :: r => .cons (.int a) (dp_all r)
theorem lay_ints : ∀ l : List Int, PyData.canLayAll0 (dI l) = true
  | [] => rfl
  | a :: r => by
    show (PyData.canLay0 (.int a) && PyData.canLayAll0 (dI r)) = true
    rw [lay_ints r] <;> rfl
theorem depth_ints : ∀ l : List Int, PyData.depthAll (dI l) = 0
  | [] => rfl
  | a :: r => by
    show max (PyData.depth (.int a)) (PyData.depthAll (dI r)) = 0
    rw [depth_ints r] <;> rfl
theorem shaped_ints (l : List Int) : SeqAt.shaped (.list (dI l)) = true := by
  unfold SeqAt.shaped
  have h1 : PyData.canLay0 (.list (dI l)) = true := lay_ints l
  have h2 : PyData.depth (.list (dI l)) = 1 := by
    show PyData.depthAll (dI l) + 1 = 1
    rw [depth_ints]
  rw [h1, h2]
  rfl
theorem eqv_ints : ∀ l m : List Int, PyData.eqvAll (dI l) (dI m) = decide (l = m)
  | [], [] => rfl
  | [], b :: s => by simp [dI, PyData.eqvAll]
  | a :: r, [] => by simp [dI, PyData.eqvAll]
  | a :: r, b :: s => by
    show (PyData.eqv (.int a) (.int b) && PyData.eqvAll (dI r) (dI s)) = decide (a :: r = b :: s)
    rw [eqv_ints r s]
    have : PyData.eqv (.int a) (.int b) = (a == b) := by simp [PyData.eqv]
    rw [this]
    by_cases h : a = b <;> by_cases h2 : r = s <;> simp [h, h2]
end Rs
namespace Rs
open PySem PySem.Spec PyProof.Rows L2 C8
def f7 (k : Kd) (cs bs : List Int) (b0 n0 : Int) : List Int := if k = .take ∨ k = .takeL ∨ k = .load then bs.set b0.toNat (if k = .load then cs.getD n0.toNat 0 else n0) else bs
def f8 (k : Kd) (bs : List Int) (b0 x y : Int) : List Int := if k = .move ∨ k = .add ∨ k = .less then bs.set b0.toNat ((if k = .move then y else if k = .add then x + y else x - y) % 256) else bs
def f9 (k : Kd) (cs : List Int) (n0 x : Int) : List Int := if k = .store then cs.set n0.toNat x else cs
def f10 (k : Kd) (cs : List Int) (n0 n1 : Int) : List Int := if k = .copy then cs.set n1.toNat (cs.getD n0.toNat 0) else cs
def f11 (k : Kd) (ss : List Int) (x : Int) : List Int := if k = .say then ss ++ [x] else ss
def f12 (k : Kd) (n0 x y pl : Int) : Int := if k = .jump ∨ (k = .zero ∧ x = 0) ∨ (k = .same ∧ x = y) then n0 else pl
def f13 (k : Kd) (n0 be pl : Int) : Int := if k = .skip then be + (n0 + 128) % 256 - 128 else pl
def f14w (k : Kd) (ks : List Int) : Str := if k = .call ∧ ks.length = 16 then "deep" else ""
def f14k (k : Kd) (ks : List Int) (be : Int) : List Int := if k = .call ∧ ¬ ks.length = 16 then ks ++ [be] else ks
def f14p (k : Kd) (n0 pl : Int) : Int := if k = .call then n0 else pl
def f15w (k : Kd) (ks : List Int) (w : Str) : Str := if k = .back then (if ks = [] then "back" else "") else w
def f15k (k : Kd) (ks : List Int) : List Int := if k = .back then ks.dropLast else ks
def f15p (k : Kd) (ks : List Int) (pl : Int) : Int := if k = .back then ks.getLastD pl else pl
def f16w (k : Kd) (w : Str) : Str := if k = .stop then "stop" else w
theorem f12_pos {k : Kd} {n0 x y pl : Int} (h : k = .jump ∨ (k = .zero ∧ x = 0) ∨ (k = .same ∧ x = y)) : f12 k n0 x y pl = n0 := if_pos h
theorem f12_neg {k : Kd} {n0 x y pl : Int} (h : ¬ (k = .jump ∨ (k = .zero ∧ x = 0) ∨ (k = .same ∧ x = y))) : f12 k n0 x y pl = pl := if_neg h
theorem final_eq (k : Kd) (bx nm : List Int) (m : M) (g : Good m) (hw : m.why = "") (hn : Bytes nm) :
    f10 k (f9 k m.cells (nm.getD 0 0) (m.boxes.getD (bx.getD 0 0).toNat 0)) (nm.getD 0 0) (nm.getD 1 0) = (doK k bx nm m).cells ∧
    f8 k (f7 k m.cells m.boxes (bx.getD 0 0) (nm.getD 0 0)) (bx.getD 0 0) (m.boxes.getD (bx.getD 0 0).toNat 0) (m.boxes.getD (bx.getD 1 0).toNat 0) = (doK k bx nm m).boxes ∧
    f15k k (f14k k m.calls m.place) = (doK k bx nm m).calls ∧
    f11 k m.says (m.boxes.getD (bx.getD 0 0).toNat 0) = (doK k bx nm m).says ∧
    f16w k (f15w k (f14k k m.calls m.place) (f14w k m.calls)) = (doK k bx nm m).why ∧
    ((doK k bx nm m).why = "" → f15p k (f14k k m.calls m.place) (f14p k (nm.getD 0 0) (f13 k (nm.getD 0 0) m.place (f12 k (nm.getD 0 0) (m.boxes.getD (bx.getD 0 0).toNat 0) (m.boxes.getD (bx.getD 1 0).toNat 0) m.place))) = (doK k bx nm m).place) := by
  have yb := byte_getD g.bv (bx.getD 1 0).toNat
  have nb := byte_getD hn 0
  cases k
  case stop => exact ⟨rfl, rfl, rfl, rfl, rfl, fun q => absurd q ne_stop⟩
  case back =>
    by_cases hc : m.calls = []
    · have e : doK .back bx nm m = { m with why := "back" } := if_pos hc
      rw [e]
      refine ⟨rfl, rfl, ?_, rfl, ?_, fun q => absurd q ne_back⟩
      · show m.calls.dropLast = m.calls
        rw [hc] <;> rfl
      · show (if m.calls = [] then ("back" : Str) else "") = "back"
        exact if_pos hc
    · have e : doK .back bx nm m = { m with place := m.calls.getLastD 0, calls := m.calls.dropLast } := if_neg hc
      rw [e]
      refine ⟨rfl, rfl, rfl, rfl, ?_, fun q => ?_⟩
      · show (if m.calls = [] then ("back" : Str) else "") = m.why
        rw [if_neg hc, hw]
      · show m.calls.getLastD _ = m.calls.getLastD 0
        cases hl : m.calls with
        | nil => exact absurd hl hc
        | cons a r => rfl
  case call =>
    by_cases hc : m.calls.length = 16
    · have e : doK .call bx nm m = { m with why := "deep" } := if_pos hc
      rw [e]
      refine ⟨rfl, rfl, ?_, rfl, ?_, fun q => absurd q ne_deep⟩
      · show (if Kd.call = .call ∧ ¬ m.calls.length = 16 then m.calls ++ [m.place] else m.calls) = m.calls
        exact if_neg (fun q => q.2 hc)
      · show (if Kd.call = .call ∧ m.calls.length = 16 then ("deep" : Str) else "") = "deep"
        exact if_pos ⟨rfl, hc⟩
    · have e : doK .call bx nm m = { m with calls := m.calls ++ [m.place], place := nm.getD 0 0 } := if_neg hc
      rw [e]
      refine ⟨rfl, rfl, ?_, rfl, ?_, fun q => ?_⟩
      · show (if Kd.call = .call ∧ ¬ m.calls.length = 16 then m.calls ++ [m.place] else m.calls) = m.calls ++ [m.place]
        exact if_pos ⟨rfl, hc⟩
      · show (if Kd.call = .call ∧ m.calls.length = 16 then ("deep" : Str) else "") = m.why
        rw [if_neg (fun q => hc q.2), hw]
      · rfl
  case zero =>
    by_cases hx : m.boxes.getD (bx.getD 0 0).toNat 0 = 0
    · have e : doK .zero bx nm m = { m with place := nm.getD 0 0 } := if_pos hx
      rw [e]
      exact ⟨rfl, rfl, rfl, rfl, hw.symm, fun _ => f12_pos (k := .zero) (.inr (.inl ⟨rfl, hx⟩))⟩
    · have e : doK .zero bx nm m = m := if_neg hx
      rw [e]
      exact ⟨rfl, rfl, rfl, rfl, hw.symm, fun _ => f12_neg (k := .zero) (fun q => by
        rcases q with q | q | q
        · cases q
        · exact hx q.2
        · cases q.1)⟩
  case same =>
    by_cases hx : m.boxes.getD (bx.getD 0 0).toNat 0 = m.boxes.getD (bx.getD 1 0).toNat 0
    · have e : doK .same bx nm m = { m with place := nm.getD 0 0 } := if_pos hx
      rw [e]
      exact ⟨rfl, rfl, rfl, rfl, hw.symm, fun _ => f12_pos (k := .same) (.inr (.inr ⟨rfl, hx⟩))⟩
    · have e : doK .same bx nm m = m := if_neg hx
      rw [e]
      exact ⟨rfl, rfl, rfl, rfl, hw.symm, fun _ => f12_neg (k := .same) (fun q => by
        rcases q with q | q | q
        · cases q
        · cases q.1
        · exact hx q.2)⟩
  case skip =>
    refine ⟨rfl, rfl, rfl, rfl, hw.symm, fun _ => ?_⟩
    show m.place + (nm.getD 0 0 + 128) % 256 - 128 = m.place + (if nm.getD 0 0 < 128 then nm.getD 0 0 else nm.getD 0 0 - 256)
    have := nb.1
    have := nb.2
    split <;> omega
  case move =>
    refine ⟨rfl, ?_, rfl, rfl, hw.symm, fun _ => rfl⟩
    show m.boxes.set (bx.getD 0 0).toNat (m.boxes.getD (bx.getD 1 0).toNat 0 % 256) = m.boxes.set (bx.getD 0 0).toNat (m.boxes.getD (bx.getD 1 0).toNat 0)
    rw [Int.emod_eq_of_lt yb.1 yb.2]
  all_goals exact ⟨rfl, rfl, rfl, rfl, hw.symm, fun _ => rfl⟩
theorem last_at (pl : Int) (ks : List Int) : atI ([V.int pl] ++ il ks) (-1) = some (V.int (ks.getLastD pl)) := by
  have h : ∃ l v, [V.int pl] ++ il ks = l ++ [v] ∧ v = V.int (ks.getLastD pl) := by
    cases hk : ks with
    | nil => exact ⟨[], _, rfl, rfl⟩
    | cons a r =>
      have hne : (a :: r) ≠ [] := List.cons_ne_nil a r
      refine ⟨[V.int pl] ++ il (a :: r).dropLast, V.int ((a :: r).getLast hne), ?_, ?_⟩
      · rw [List.append_assoc]
        congr 1
        rw [← List.map_singleton (f := V.int), ← List.map_append, List.dropLast_concat_getLast]
      · rfl
  obtain ⟨l, v, e, ev⟩ := h
  rw [e, ← ev]
  exact atI_last l v
theorem cut_last (ks : List Int) : cutV (il ks) none (some (-1)) = il ks.dropLast := by
  unfold cutV
  have e : HT.sIx (il ks).length (il ks).length (some (-1)) = (il ks).length - 1 := by
    have e0 : HT.sIx (il ks).length (il ks).length (some (-1)) = ((-1 : Int) + ((il ks).length : Int)).toNat := by
      simp only [HT.sIx]
      rw [if_pos (by decide)]
    rw [e0]
    omega
  rw [e, HT.sIx_none, List.drop_zero, Nat.sub_zero, ← List.dropLast_eq_take, ← List.map_dropLast]
end Rs
namespace Rs
open PySem PySem.Spec PyProof.Rows L2 C8
theorem cells_eq {ws : List Int} (be : Int) (hl : ws.length ≤ 256) : il ws ++ (List.replicate ((256 : Int) - ((il ws).length : Int)).toNat [V.int 0]).flatten = il (init ws be).cells := by
  have e : (il ws).length = ws.length := List.length_map ..
  have e1 : ((256 : Int) - (ws.length : Int)).toNat = 256 - ws.length := by omega
  have e2 : ∀ n : Nat, (List.replicate n [V.int 0]).flatten = il (List.replicate n 0) := fun n => by
    induction n with
    | zero => rfl
    | succ n ih =>
      rw [List.replicate_succ, List.flatten_cons, ih]
      rfl
  rw [e, e1, e2]
  show il ws ++ il (List.replicate (256 - ws.length) 0) = il (ws ++ List.replicate (256 - ws.length) 0)
  simp [il]
theorem cells_len (ws : List Int) : (List.replicate ((256 : Int) - ((il ws).length : Int)).toNat [V.int 0]).flatten.length ≤ 256 := by
  rw [List.length_flatten, List.map_replicate, List.sum_replicate_nat]
  simp
theorem yes_of {σ : L2.St} {H : Hp} {Q : Bool → Hp → Prop} (h : Q true H) : tYes σ H Q := h
theorem at0 (l : List Int) : atI (il l ++ [V.int 0]) 0 = some (V.int (l.getD 0 0)) := by
  have h : (il l ++ [V.int 0])[0]? = some (V.int (l.getD 0 0)) := by cases l <;> rfl
  exact atI_nat h
theorem dict_at {k : Kd} (h : k = .move ∨ k = .add ∨ k = .less) (u v w : Int) : valV (mergeK [] [(Sum.inr "move", V.int u), (Sum.inr "add", V.int v), (Sum.inr "less", V.int w)]) (Sum.inr k.str) = some (V.int (if k = .move then u else if k = .add then v else w)) := by
  rcases h with rfl | rfl | rfl <;> rfl
/-- what stays in a turn -/
structure LC where
  (a ac ab as ap t b n : Addr)
  be : Int
  mo : Nat
  k : Kd
  (bx nm : List Int)
  sz : Nat
  (behind n0 x y : Int)
def LMid (H0 : Hp) (L : LC) (cs bs ks ss ps : List Int) (pl : Int) (wy : Str) : L2.St → Hp → Prop := fun σ H => ∃ (ak : Addr) (v : Option V),
  σ = [some (.ref L.a), some (.int L.be), some (.int (L.mo : Nat)), some (.ref L.ac), some (.ref L.ab), some (.int pl), some (.ref ak), some (.ref L.as), some (.ref L.ap), some (.str wy), some (.ref L.t), some (.str L.k.str), some (.ref L.b), some (.ref L.n), some (.int (L.sz : Nat)),
    some (.int L.behind), some (.int L.n0), some (.int L.x), some (.int L.y), v] ∧ LAt H0 H L.ac L.ab ak L.as L.ap cs bs ks ss ps ∧ H L.b = some (.lst (il L.bx)) ∧ H L.n = some (.lst (il L.nm))
section
variable {P : Program} {w : World} {K : PySem.W.Frag} {mg : Str → Option Value} {base : Heap}
def spRuns : Sp := fun vs H Q _ => ∃ (a : Addr) (ws : List Int) (begin : Int) (most : Nat), vs = [.ref a, .int begin, .int most] ∧ H a = some (.lst (il ws)) ∧ ws.length ≤ 256 ∧ Bytes ws ∧ most ≤ 1000 ∧
  ∀ (H' : Hp) (t s p : Addr), Same H H' → H t = none → H s = none → H p = none → s ≠ p → H' t = some (.tup [.ref s, .str (runW ws most (init ws begin)).why, .ref p]) → H' s = some (.lst (il (runW ws most (init ws begin)).says)) →
    H' p = some (.lst (il (runW ws most (init ws begin)).past)) → Q (.ref t) H'
theorem ok_runs (D : DefAt K mg "_law_runs" sD__law_runs) (T : Txt w K mg) (c__law_read : Cal P w K mg base 2 "_law_read" spRead []) : Cal P w K mg base 3 "_law_runs" spRuns [] := by
  refine cal_of D sc__law_runs (fun _ _ _ _ _ _ us hl => match us, hl with | [_, _, _], _ => rfl) (fun vs H Q E h => ?_) (fun cdv A outer s H vs Q E hr h => ?_)
  · obtain ⟨a, ws, be, mo, rfl, _⟩ := h
    rfl
  · obtain ⟨a, ws, be, mo, rfl, hS, hl, hb, m1, k⟩ := h
    refine ⟨_, (pss_cons (ps_asg (pe_tup (pa_cons (pe_op op_cat (pe_callTy call_list_of (by rfl) T.free_list (by decide +kernel) (pa_cons (pv 0) pa_nil)) (pe_op op_rep (pe_lst (pa_cons pe_int pa_nil)) (pe_op op_sub pe_int (pe_callB call_len_seq (by rfl) T.free_len (by decide +kernel) (pa_cons (pv 0) pa_nil))))) (pa_cons (pe_lst (pa_cons pe_int (pa_cons pe_int (pa_cons pe_int (pa_cons pe_int pa_nil))))) pa_nil))) (pg_tup rfl (pgs_cons (pg_name (i := 3) sc__law_runs.nd rfl (Or.inl rfl)) (pgs_cons (pg_name (i := 4) sc__law_runs.nd rfl (Or.inr rfl)) pgs_nil))))
  (pss_cons (ps_asg (pe_tup (pa_cons (pv 1) (pa_cons (pe_lst pa_nil) (pa_cons (pe_lst pa_nil) (pa_cons (pe_lst pa_nil) (pa_cons pe_str pa_nil)))))) (pg_tup rfl (pgs_cons (pg_name (i := 5) sc__law_runs.nd rfl (Or.inl rfl)) (pgs_cons (pg_name (i := 6) sc__law_runs.nd rfl (Or.inl rfl)) (pgs_cons (pg_name (i := 7) sc__law_runs.nd rfl (Or.inl rfl)) (pgs_cons (pg_name (i := 8) sc__law_runs.nd rfl (Or.inl rfl)) (pgs_cons (pg_name (i := 9) sc__law_runs.nd rfl (Or.inl rfl)) pgs_nil)))))))
  (pss_cons (ps_while PassesOwn.never (PW.pt (pw_and (pt_cmpR op_eq (pv 9) pe_str (nomark _)) (pw_and1 (pt_cmpR op_lt (pe_callB call_len_seq (by rfl) T.free_len (by decide +kernel) (pa_cons (pv 8) pa_nil)) (pv 2) (nomark _)))))
   (pss_cons (ps_set (i := 10) sc__law_runs.nd rfl (Or.inl rfl) (pe_c c__law_read hr (by decide) (by rfl) (pa_cons (pv 0) (pa_cons (pv 5) pa_nil))))
  (pss_one (ps_if (pt_cmpR op_isN (pv 10) pe_non (nomark _))
   (pss_one (ps_set (i := 9) sc__law_runs.nd rfl (Or.inl rfl) (pe_ifExp (pt_chain op_le op_lt pe_int (pv 5) (pe_callB call_len_seq (by rfl) T.free_len (by decide +kernel) (pa_cons (pv 0) pa_nil))) pe_str pe_str)))
   (pss_cons (ps_asg (pv 10) (pg_tup rfl (pgs_cons (pg_name (i := 11) sc__law_runs.nd rfl (Or.inl rfl)) (pgs_cons (pg_name (i := 12) sc__law_runs.nd rfl (Or.inl rfl)) (pgs_cons (pg_name (i := 13) sc__law_runs.nd rfl (Or.inl rfl)) (pgs_cons (pg_name (i := 14) sc__law_runs.nd rfl (Or.inl rfl)) pgs_nil))))))
  (pss_cons (ps_expr (pe_bm PySem.F.plainAttrs_list PySem.F.slot_list_append PySem.F.type_list_append mt_append (pv 8) (pa_cons (pv 5) pa_nil)))
  (pss_cons (ps_set (i := 15) sc__law_runs.nd rfl (Or.inl rfl) (pe_op op_add (pv 5) (pv 14)))
  (pss_cons (ps_set (i := 5) sc__law_runs.nd rfl (Or.inl rfl) (pv 15))
  (pss_cons (ps_set (i := 16) sc__law_runs.nd rfl (Or.inl rfl) (pe_ix ix_list (pe_op op_cat (pv 13) (pe_lst (pa_cons pe_int pa_nil))) pe_int (fun _ _ => rfl)))
  (pss_cut (ps_asg (pe_lc (own := [("_law_one", 19)]) (g := gName 19) (by rfl) sc__law_runs.nd (pi_list (pe_slice sl_list (pe_op op_cat (pv 12) (pe_lst (pa_cons pe_int (pa_cons pe_int pa_nil)))) po_none (po_some pe_int))) (blkOk_by (own := [("_law_one", 19)]) (N := N__law_runs) (sc := defScope sD__law_runs) (by decide +kernel)) (fun _ _ _ _ _ => (pg_name (i := 19) sc__law_runs.nd rfl (Or.inl rfl))) (fun _ _ _ _ _ => pts_nil) (fun _ _ _ _ _ => (pe_ix (r := rIxL K) ix_list (pv 4) (pv 19) (fun _ _ => rfl)))) (pg_unl rfl (pgs_cons (pg_name (i := 17) sc__law_runs.nd rfl (Or.inl rfl)) (pgs_cons (pg_name (i := 18) sc__law_runs.nd rfl (Or.inl rfl)) pgs_nil))))
  (pss_cut (ps_if (pt_cmpR op_in_seq (pv 11) (pe_tup (pa_cons pe_str (pa_cons pe_str (pa_cons pe_str pa_nil)))) (by rfl))
   (pss_one (ps_asg (pe_ifExp (pt_cmpR op_eq (pv 11) pe_str (nomark _)) (pe_ix ix_list (pv 3) (pv 16) (fun _ _ => rfl)) (pv 16)) (pg_sub (pv 4) (pe_ix ix_list (pv 12) pe_int (fun _ _ => rfl)) set_list)))
   pss_nil)
  (pss_cut (ps_if (pt_cmpR op_in_seq (pv 11) (pe_tup (pa_cons pe_str (pa_cons pe_str (pa_cons pe_str pa_nil)))) (by rfl))
   (pss_one (ps_asg (pe_op op_mod (pe_dget (hu_of hr) (pe_disp (pps_cons pe_str (pv 18) (pps_cons pe_str (pe_op op_add (pv 17) (pv 18)) (pps_cons pe_str (pe_op op_sub (pv 17) (pv 18)) pps_nil))) (by rfl) (by rfl) (fun z => by cases z) (by decide)) (pv 11) (fun _ _ => rfl)) pe_int) (pg_sub (pv 4) (pe_ix ix_list (pv 12) pe_int (fun _ _ => rfl)) set_list)))
   pss_nil)
  (pss_cut (ps_if (pt_cmpR op_eq (pv 11) pe_str (nomark _))
   (pss_one (ps_asg (pv 17) (pg_sub (pv 3) (pv 16) set_list)))
   pss_nil)
  (pss_cut (ps_if (pt_cmpR op_eq (pv 11) pe_str (nomark _))
   (pss_one (ps_asg (pe_ix ix_list (pv 3) (pv 16) (fun _ _ => rfl)) (pg_sub (pv 3) (pe_ix ix_list (pv 13) pe_int (fun _ _ => rfl)) set_list)))
   pss_nil)
  (pss_cut (ps_if (pt_cmpR op_eq (pv 11) pe_str (nomark _))
   (pss_one (ps_expr (pe_bm PySem.F.plainAttrs_list PySem.F.slot_list_append PySem.F.type_list_append mt_append (pv 7) (pa_cons (pv 17) pa_nil))))
   pss_nil)
  (pss_cut (ps_if (PW.pt (pw_or (pt_cmpR op_eq (pv 11) pe_str (nomark _)) (pw_or (PW.pt (pw_and (pt_cmpR op_eq (pv 11) pe_str (nomark _)) (pw_and1 (pt_cmpR op_eq (pv 17) pe_int (nomark _))))) (pw_or1 (PW.pt (pw_and (pt_cmpR op_eq (pv 11) pe_str (nomark _)) (pw_and1 (pt_cmpR op_eq (pv 17) (pv 18) (nomark _)))))))))
   (pss_one (ps_set (i := 5) sc__law_runs.nd rfl (Or.inl rfl) (pv 16)))
   pss_nil)
  (pss_cut (ps_set (i := 5) sc__law_runs.nd rfl (Or.inl rfl) (pe_ifExp (pt_cmpR op_eq (pv 11) pe_str (nomark _)) (pe_op op_sub (pe_op op_add (pv 15) (pe_op op_mod (pe_op op_add (pv 16) pe_int) pe_int)) pe_int) (pv 5)))
  (pss_cut (ps_if (pt_cmpR op_eq (pv 11) pe_str (nomark _))
   (pss_cons (ps_set (i := 9) sc__law_runs.nd rfl (Or.inl rfl) (pe_ifExp (pt_cmpR op_eq (pe_callB call_len_seq (by rfl) T.free_len (by decide +kernel) (pa_cons (pv 6) pa_nil)) pe_int (nomark _)) pe_str pe_str))
  (pss_cons (ps_set (i := 6) sc__law_runs.nd rfl (Or.inl rfl) (pe_op op_cat (pv 6) (pe_op op_rep (pe_lst (pa_cons (pv 15) pa_nil)) (pe_callTy call_int1 (by rfl) T.free_int (by decide +kernel) (pa_cons (pe_cmpR op_eq (pv 9) pe_str (nomark _)) pa_nil)))))
  (pss_one (ps_set (i := 5) sc__law_runs.nd rfl (Or.inl rfl) (pv 16)))))
   pss_nil)
  (pss_cut (ps_if (pt_cmpR op_eq (pv 11) pe_str (nomark _))
   (pss_cons (ps_set (i := 9) sc__law_runs.nd rfl (Or.inl rfl) (pe_ifExp (pt_cmpR (op_eqD hr.units) (pv 6) (pe_lst pa_nil) (nomark _)) pe_str pe_str))
  (pss_one (ps_par (i := 5) (j := 6) (by rfl) sc__law_runs.nd rfl rfl (by decide) rfl rfl (pa_cons (pe_ix ix_list (pe_op op_cat (pe_lst (pa_cons (pv 5) pa_nil)) (pv 6)) (pe_un un_neg pe_int) (fun _ _ => rfl)) (pa_cons (pe_slice sl_list (pv 6) po_none (po_some (pe_un un_neg pe_int))) pa_nil)) (by rfl))))
   pss_nil)
  (pss_one (ps_set (i := 9) sc__law_runs.nd rfl (Or.inl rfl) (pe_ifExp (pt_cmpR op_eq (pv 11) pe_str (nomark _)) pe_str (pv 9)))))))))))))))))))))))
  (pss_one (ps_ret (pe_tup (pa_cons (pv 7) (pa_cons (pv 9) (pa_cons (pv 8) pa_nil))))))))), ?_⟩
    refine ⟨_, rfl, a, _, rfl, .inl (SqL.of hS), fun l2 hl2 => ?_⟩
    refine ⟨(by show 1 ≤ sizeLine; decide), fun z hz => ?_⟩
    have p2 := Same.new (o := .lst (il ws)) hl2
    have p3 := p2.add (o := .lst [V.int 0]) hz
    have n2z : l2 ≠ z := ne_of_none upd_same hz
    refine ⟨_, rfl, a, _, rfl, .inl (SqL.of (p3 _ _ hS)), _, _, rfl, rfl, z, _, _, rfl, rfl, upd_same, ?_, ?_, ?_, fun zr hzr => ?_⟩
    · rw [List.length_map]
      omega
    · rw [List.length_map]
      omega
    · rw [List.length_map]
      have : (([V.int 0] : List V)).length * ((256 : Int) - (ws.length : Int)).toNat ≤ 256 := by simp
      exact Nat.le_trans this (by decide)
    have n2r : l2 ≠ zr := ne_of_none ((upd_ne n2z).trans upd_same) hzr
    have p4 := p3.add (o := .lst (List.replicate ((256 : Int) - ((il ws).length : Int)).toNat [V.int 0]).flatten) hzr
    refine ⟨l2, zr, _, _, rfl, rfl, (upd_ne n2r).trans ((upd_ne n2z).trans upd_same), upd_same, ?_, fun ac hac => ?_⟩
    · have e : (il ws).length = ws.length := List.length_map ..
      exact Nat.le_trans (Nat.add_le_add (show (il ws).length ≤ 256 by omega) (cells_len ws)) (by decide)
    rw [cells_eq be hl]
    have zc : H ac = none := p4.free hac
    have p5 := p4.add (o := .lst (il (init ws be).cells)) hac
    have c5 : upd (upd (upd (upd H l2 (.lst (il ws))) z (.lst [V.int 0])) zr (.lst (List.replicate ((256 : Int) - ((il ws).length : Int)).toNat [V.int 0]).flatten)) ac (.lst (il (init ws be).cells)) ac = some (.lst (il (init ws be).cells)) := upd_same
    generalize upd (upd (upd (upd H l2 (.lst (il ws))) z (.lst [V.int 0])) zr (.lst (List.replicate ((256 : Int) - ((il ws).length : Int)).toNat [V.int 0]).flatten)) ac (.lst (il (init ws be).cells)) = H5 at p5 c5 ⊢
    refine ⟨(by show 4 ≤ sizeLine; decide), fun ab hab => ?_⟩
    have zb : H ab = none := p5.free hab
    have ncb : ac ≠ ab := ne_of_none c5 hab
    refine ⟨(by show 2 ≤ sizeLine; decide), fun tt htt => ⟨tt, _, rfl, SqT.of upd_same, rfl, _, _, rfl, _, _, rfl, rfl, ?_⟩⟩
    have p6 := (p5.add (o := .lst [V.int 0, V.int 0, V.int 0, V.int 0]) hab).add (o := .tup [V.ref ac, V.ref ab]) htt
    have q6 := (Same.new (o := .lst [V.int 0, V.int 0, V.int 0, V.int 0]) hab).add (o := .tup [V.ref ac, V.ref ab]) htt
    have c6 := q6 _ _ c5
    have b6 : upd (upd H5 ab (.lst [V.int 0, V.int 0, V.int 0, V.int 0])) tt (.tup [V.ref ac, V.ref ab]) ab = some (.lst (il [0, 0, 0, 0])) := Same.new htt _ _ upd_same
    generalize upd (upd H5 ab (.lst [V.int 0, V.int 0, V.int 0, V.int 0])) tt (.tup [V.ref ac, V.ref ab]) = H6 at p6 c6 b6 ⊢
    refine ⟨_, rfl, Nat.zero_le _, fun ak hak => ⟨Nat.zero_le _, fun as has => ⟨Nat.zero_le _, fun ap hap => ⟨(by show 5 ≤ sizeLine; decide), fun t5 ht5 => ⟨t5, _, rfl, SqT.of upd_same, rfl, _, _, rfl, _, _, rfl, _, _, rfl, _, _, rfl, _, _, rfl, rfl, ?_⟩⟩⟩⟩⟩
    have r1 := Same.new (o := .lst []) hak
    have r2 := r1.add (o := .lst []) has
    have r3 := r2.add (o := .lst []) hap
    have r4 := r3.add (o := .tup [V.int be, V.ref ak, V.ref as, V.ref ap, V.str ""]) ht5
    have k4 : upd (upd (upd (upd H6 ak (.lst [])) as (.lst [])) ap (.lst [])) t5 (.tup [V.int be, V.ref ak, V.ref as, V.ref ap, V.str ""]) ak = some (.lst (il [])) := (((Same.refl _).add has).add hap).add ht5 _ _ upd_same
    have s4 : upd (upd (upd (upd H6 ak (.lst [])) as (.lst [])) ap (.lst [])) t5 (.tup [V.int be, V.ref ak, V.ref as, V.ref ap, V.str ""]) as = some (.lst (il [])) := ((Same.refl _).add hap).add ht5 _ _ upd_same
    have p4' : upd (upd (upd (upd H6 ak (.lst [])) as (.lst [])) ap (.lst [])) t5 (.tup [V.int be, V.ref ak, V.ref as, V.ref ap, V.str ""]) ap = some (.lst (il [])) := (Same.refl _).add ht5 _ _ upd_same
    have n1 : ac ≠ ak := ne_of_none c6 hak
    have n2 : ab ≠ ak := ne_of_none b6 hak
    have n3 : ac ≠ as := ne_of_none (r1 _ _ c6) has
    have n4 : ab ≠ as := ne_of_none (r1 _ _ b6) has
    have n5 : ak ≠ as := ne_of_none upd_same has
    have n6 : ac ≠ ap := ne_of_none (r2 _ _ c6) hap
    have n7 : ab ≠ ap := ne_of_none (r2 _ _ b6) hap
    have n8 : ak ≠ ap := ne_of_none (Same.new has _ _ upd_same) hap
    have n9 : as ≠ ap := ne_of_none upd_same hap
    have zs : H as = none := (p6.trans r1).free has
    have zp : H ap = none := (p6.trans r2).free hap
    have L0 : LAt H (upd (upd (upd (upd H6 ak (.lst [])) as (.lst [])) ap (.lst [])) t5 (.tup [V.int be, V.ref ak, V.ref as, V.ref ap, V.str ""])) ac ab ak as ap (init ws be).cells [0, 0, 0, 0] [] [] [] :=
      ⟨r4 _ _ c6, r4 _ _ b6, k4, s4, p4', by simp [n1, n2, n3, n4, n5, n6, n7, n8, n9, ncb], zc, zb, zs, zp, p6.trans r4⟩
    generalize upd (upd (upd (upd H6 ak (.lst [])) as (.lst [])) ap (.lst [])) t5 (.tup [V.int be, V.ref ak, V.ref as, V.ref ap, V.str ""]) = H7 at L0 ⊢
    refine ⟨fun n σ' H' => ∃ (m : M) (pl : Int) (ak : Addr) (v10 v11 v12 v13 v14 v15 v16 v17 v18 v19 : Option V), n = mu mo m ∧ σ' = [some (.ref a), some (.int be), some (.int (mo : Nat)), some (.ref ac), some (.ref ab), some (.int pl), some (.ref ak), some (.ref as), some (.ref ap), some (.str m.why),
        v10, v11, v12, v13, v14, v15, v16, v17, v18, v19] ∧ (m.why = "" → pl = m.place) ∧ LAt H H' ac ab ak as ap m.cells m.boxes m.calls m.says m.past ∧ Good m ∧ runW ws mo m = runW ws mo (init ws be) ∧ m.past.length ≤ mo,
      ⟨_, init ws be, _, _, _, _, _, _, _, _, _, _, _, _, rfl, rfl, fun _ => rfl, L0, init_good hl hb, rfl, Nat.zero_le _⟩, ?_⟩
    rintro n σ' H' ⟨m, pl, ak, v10, v11, v12, v13, v14, v15, v16, v17, v18, v19, rfl, rfl, hpl, hL, g, er, hpm⟩
    have hSL := hL.sm _ _ hS
    have fin : ¬ (m.why = "" ∧ m.past.length < mo) → tRet (tTup (tCons (tVar 7) (tCons (tVar 9) (tCons (tVar 8) tNil)))) { nx := fun _ H' => Q .non H', rt := Q } [some (.ref a), some (.int be), some (.int (mo : Nat)), some (.ref ac), some (.ref ab), some (.int pl), some (.ref ak), some (.ref as), some (.ref ap), some (.str m.why),
        v10, v11, v12, v13, v14, v15, v16, v17, v18, v19] H' := fun hf => by
      refine ⟨_, rfl, _, rfl, _, rfl, (by show 3 ≤ sizeLine; decide), fun t ht => ?_⟩
      rw [← er, runW_end hf] at k
      exact k _ t as ap (hL.sm.add ht) (hL.sm.free ht) zs zp n9 upd_same ((upd_ne (ne_of_none hL.s ht)).trans hL.s) ((upd_ne (ne_of_none hL.p ht)).trans hL.p)
    refine ⟨_, rfl, rfl, _, rfl, ?_⟩
    by_cases hw : m.why = ""
    · rw [decide_eq_true (show V.str m.why = V.str "" by rw [hw])]
      refine iteT ⟨_, rfl, ap, _, rfl, .inl (SqL.of hL.p), _, rfl, _, _, rfl, rfl, _, rfl, ?_⟩
      rw [List.length_map]
      by_cases hlt : m.past.length < mo
      · rw [decide_eq_true (show ((m.past.length : Nat) : Int) < ((mo : Nat) : Int) by omega)]
        obtain rfl := hpl hw
        refine iteT ⟨fun σ' H' => ∃ (m2 : M) (pl : Int) (ak : Addr) (v10 v11 v12 v13 v14 v15 v16 v17 v18 v19 : Option V), mu mo m2 < mu mo m ∧ σ' = [some (.ref a), some (.int be), some (.int (mo : Nat)), some (.ref ac), some (.ref ab), some (.int pl), some (.ref ak), some (.ref as), some (.ref ap), some (.str m2.why),
            v10, v11, v12, v13, v14, v15, v16, v17, v18, v19] ∧ (m2.why = "" → pl = m2.place) ∧ LAt H H' ac ab ak as ap m2.cells m2.boxes m2.calls m2.says m2.past ∧ Good m2 ∧ runW ws mo m2 = runW ws mo (init ws be) ∧ m2.past.length ≤ mo,
          fun σ' H' ⟨m2, q1, q2, q3, q4, q5, q6, q7, q8, q9, q10, q11, q12, h1, h2⟩ => ⟨_, h1, m2, q1, q2, q3, q4, q5, q6, q7, q8, q9, q10, q11, q12, rfl, h2⟩, ?_⟩
        have mst := mu_step (ws := ws) hw hlt
        have ers : runW ws mo (step ws m) = runW ws mo (init ws be) := (runW_go hw hlt).symm.trans er
        have gst := step_good (m := m) hb g
        refine ⟨_, rfl, _, rfl, a, ws, m.place, rfl, hSL, hl, fun hn H2 s2 => ?_, fun r hr2 H5 t b n s5 t0 b0' n0 ht hbx hnm => ?_⟩
        · have hL2 := hL.same s2
          refine ⟨_, rfl, rfl, _, rfl, ?_⟩
          refine iteT ?_
          rw [step_none hn] at mst ers gst
          refine ⟨_, rfl, _, _, rfl, rfl, _, rfl, ?_⟩
          by_cases h1 : 0 ≤ m.place
          · rw [decide_eq_true h1]
            refine iteT ⟨_, rfl, a, _, rfl, .inl (SqL.of (s2 _ _ hSL)), _, _, rfl, rfl, _, rfl, ?_⟩
            rw [List.length_map]
            by_cases h2 : m.place < (ws.length : Int)
            · rw [decide_eq_true h2]
              rw [if_pos ⟨h1, h2⟩] at mst ers gst
              exact iteT ⟨_, _, _, _, _, _, _, _, _, _, _, _, _, mst, rfl, fun q => absurd q ne_none, hL2, gst, ers, hpm⟩
            · rw [decide_eq_false h2]
              rw [if_neg (fun q => h2 q.2)] at mst ers gst
              exact iteF ⟨_, _, _, _, _, _, _, _, _, _, _, _, _, mst, rfl, fun q => absurd q ne_end, hL2, gst, ers, hpm⟩
          · rw [decide_eq_false h1]
            rw [if_neg (fun q => h1 q.1)] at mst ers gst
            exact iteF ⟨_, rfl, iteF ⟨_, _, _, _, _, _, _, _, _, _, _, _, _, mst, rfl, fun q => absurd q ne_end, hL2, gst, ers, hpm⟩⟩
        · have hL5 := hL.same s5
          have ho := rowAt_ok hb hr2
          obtain ⟨ba, bb, bs, bp⟩ := hL.apart b0'
          obtain ⟨na, nb, ns, np⟩ := hL.apart n0
          obtain ⟨ta, tb, ts, tp⟩ := hL.apart t0
          refine ⟨_, rfl, rfl, _, rfl, ?_⟩
          refine iteF ?_
          refine ⟨_, rfl, t, _, rfl, SqT.of ht, rfl, _, _, rfl, _, _, rfl, _, _, rfl, _, _, rfl, rfl, ?_⟩
          refine ⟨_, rfl, .inl ⟨rfl, _, SqL.of hL5.p⟩, _, rfl, ap, _, _, rfl, rfl, hL5.p, ?_, ?_⟩
          · rw [List.length_map]
            exact Nat.lt_of_le_of_lt (Nat.le_trans hpm m1) (by decide)
          rw [il_app]
          have hL6 := hL5.setP (m.past ++ [m.place])
          have hb6 : upd H5 ap (.lst (il (m.past ++ [m.place]))) b = some (.lst (il r.bx)) := (upd_ne bp).trans hbx
          have hn6 : upd H5 ap (.lst (il (m.past ++ [m.place]))) n = some (.lst (il r.nm)) := (upd_ne np).trans hnm
          generalize upd H5 ap (.lst (il (m.past ++ [m.place]))) = H6' at hL6 hb6 hn6 ⊢
          refine ⟨_, rfl, _, rfl, _, _, rfl, rfl, ?_⟩
          refine ⟨_, rfl, ?_⟩
          refine ⟨_, rfl, (by show 1 ≤ sizeLine; decide), fun z1 hz1 => ?_⟩
          refine ⟨n, z1, _, _, rfl, rfl, (upd_ne (ne_of_none hn6 hz1)).trans hn6, upd_same, ?_, fun z2 hz2 => ?_⟩
          · have := ho.nl
            have e : (il r.nm).length = r.nm.length := List.length_map ..
            have e2 : nNum r.k ≤ 2 := by cases r.k <;> decide
            exact Nat.le_trans (show (il r.nm).length + ([V.int 0] : List V).length ≤ 3 by simp; omega) (by decide)
          refine ⟨z2, _, _, _, rfl, rfl, SqL.of upd_same, at0 r.nm, ?_⟩
          have s9 := (Same.new (o := .lst [V.int 0]) hz1).add (o := .lst (il r.nm ++ [V.int 0])) hz2
          have hL9 := hL6.same s9
          have hb9 := s9 _ _ hb6
          have hn9 := s9 _ _ hn6
          generalize upd (upd H6' z1 (.lst [V.int 0])) z2 (.lst (il r.nm ++ [V.int 0])) = H9 at hL9 hb9 hn9 ⊢
          have hbl : r.bx.length ≤ 2 := by
            rw [ho.bl]
            cases r.k <;> decide
          have bok : ∀ j, 0 ≤ r.bx.getD j 0 ∧ r.bx.getD j 0 < 4 := fun j => by
            by_cases q : j < r.bx.length
            · exact ho.bv _ (getD_mem q)
            · rw [List.getD_eq_getElem?_getD, List.getElem?_eq_none (by omega)]
              exact ⟨by decide, by decide⟩
          have gb := g.b
          have gc := g.c
          refine ⟨LMid H ⟨a, ac, ab, as, ap, t, b, n, be, mo, r.k, r.bx, r.nm, r.size, m.place + (r.size : Nat), r.nm.getD 0 0, m.boxes.getD (r.bx.getD 0 0).toNat 0, m.boxes.getD (r.bx.getD 1 0).toNat 0⟩ m.cells m.boxes m.calls m.says (m.past ++ [m.place]) (m.place + (r.size : Nat)) "", ?_, ?_⟩
          · refine ⟨_, rfl, (by show 2 ≤ sizeLine; decide), fun z3 hz3 => ?_⟩
            refine ⟨b, z3, _, _, rfl, rfl, (upd_ne (ne_of_none hb9 hz3)).trans hb9, upd_same, ?_, fun z4 hz4 => ?_⟩
            · exact Nat.le_trans (show (il r.bx).length + ([V.int 0, V.int 0] : List V).length ≤ 4 by simp; omega) (by decide)
            refine ⟨_, rfl, z4, _, rfl, SqL.of upd_same, fun z5 hz5 => ?_⟩
            have ecut : cutV (il r.bx ++ [V.int 0, V.int 0]) none (some 2) = [V.int (r.bx.getD 0 0), V.int (r.bx.getD 1 0)] := by
              match hq : r.bx, hbl with
              | [], _ => rfl
              | [_], _ => rfl
              | [_, _], _ => rfl
            rw [ecut]
            have s10 := ((Same.new (o := .lst [V.int 0, V.int 0]) hz3).add (o := .lst (il r.bx ++ [V.int 0, V.int 0])) hz4).add (o := .lst [V.int (r.bx.getD 0 0), V.int (r.bx.getD 1 0)]) hz5
            have z5at : upd (upd (upd H9 z3 (.lst [V.int 0, V.int 0])) z4 (.lst (il r.bx ++ [V.int 0, V.int 0]))) z5 (.lst [V.int (r.bx.getD 0 0), V.int (r.bx.getD 1 0)]) z5 = some (.lst [V.int (r.bx.getD 0 0), V.int (r.bx.getD 1 0)]) := upd_same
            have hL10 := hL9.same s10
            have hb10 := s10 _ _ hb9
            have hn10 := s10 _ _ hn9
            generalize upd (upd (upd H9 z3 (.lst [V.int 0, V.int 0])) z4 (.lst (il r.bx ++ [V.int 0, V.int 0]))) z5 (.lst [V.int (r.bx.getD 0 0), V.int (r.bx.getD 1 0)]) = H10 at z5at hL10 hb10 hn10 ⊢
            refine ⟨z5, rfl, ⟨_, SqL.of z5at⟩, fun Dl hD => ?_⟩
            refine lc_list (K := K) (a := z5) (xs := [V.int (r.bx.getD 0 0), V.int (r.bx.getD 1 0)]) (fun i H' => Same H10 H' ∧ H' Dl = some (.lst (([V.int (m.boxes.getD (r.bx.getD 0 0).toNat 0), V.int (m.boxes.getD (r.bx.getD 1 0).toNat 0)] : List V).take i)))
              ⟨Same.new hD, upd_same⟩ (fun i H' _ ⟨q, _⟩ => SqL.of (q _ _ z5at)) ?_ ?_
            · rintro i x H' hx ⟨sq, hDl⟩
              match i, hx with
              | 0, hx =>
                cases hx
                refine ⟨rfl, yes_of ?_⟩
                refine iteT ?_
                exact ⟨_, rfl, _, rfl, ab, _, _, _, rfl, rfl, SqL.of (sq _ _ hL10.b), ints_atI (bok 0).1 (by have := (bok 0).2; omega), _, hDl, (by show 0 < sizeLine; decide), sq.putNew hD, upd_same⟩
              | 1, hx =>
                cases hx
                refine ⟨rfl, yes_of ?_⟩
                refine iteT ?_
                exact ⟨_, rfl, _, rfl, ab, _, _, _, rfl, rfl, SqL.of (sq _ _ hL10.b), ints_atI (bok 1).1 (by have := (bok 1).2; omega), _, hDl, (by show 1 < sizeLine; decide), sq.putNew hD, upd_same⟩
            · rintro H' ⟨sq, hDl⟩
              exact ⟨Dl, _, rfl, SqL.of hDl, rfl, _, _, rfl, _, _, rfl, rfl, ak, _, by rw [hw] <;> rfl, hL10.same sq, sq _ _ hb10, sq _ _ hn10⟩
          generalize eLC : LC.mk a ac ab as ap t b n be mo r.k r.bx r.nm r.size (m.place + (r.size : Nat)) (r.nm.getD 0 0) (m.boxes.getD (r.bx.getD 0 0).toNat 0) (m.boxes.getD (r.bx.getD 1 0).toNat 0) = L
          have nv : Byte (r.nm.getD 0 0) := byte_getD ho.nv 0
          have nv1 : Byte (r.nm.getD 1 0) := byte_getD ho.nv 1
          have eac : L.ac = ac := by rw [← eLC]
          have eab : L.ab = ab := by rw [← eLC]
          have eas : L.as = as := by rw [← eLC]
          have eap : L.ap = ap := by rw [← eLC]
          have eb_ : L.b = b := by rw [← eLC]
          have en_ : L.n = n := by rw [← eLC]
          have ek : L.k = r.k := by rw [← eLC]
          have ebx : L.bx = r.bx := by rw [← eLC]
          have enm : L.nm = r.nm := by rw [← eLC]
          have en0 : L.n0 = r.nm.getD 0 0 := by rw [← eLC]
          · -- take, take!, load
            rintro σ1 H1 ⟨ak1, w1, rfl, h1, hb1, hn1⟩
            refine ⟨LMid H L m.cells (f7 L.k m.cells m.boxes (L.bx.getD 0 0) L.n0) m.calls m.says (m.past ++ [m.place]) (m.place + (r.size : Nat)) "", ?_, ?_⟩
            · refine ⟨_, rfl, (by show 3 ≤ sizeLine; decide), fun tq htq => ⟨tq, _, rfl, .inr (SqT.of upd_same), rfl, rfl, _, rfl, ?_⟩⟩
              have h2 := h1.same (Same.new (o := .tup [V.str "take", V.str "take!", V.str "load"]) htq)
              have hb2 := Same.new (o := .tup [V.str "take", V.str "take!", V.str "load"]) htq _ _ hb1
              have hn2 := Same.new (o := .tup [V.str "take", V.str "take!", V.str "load"]) htq _ _ hn1
              refine ite2 (fun q => ?_) (fun q => ?_)
              · have hk : L.k = .take ∨ L.k = .takeL ∨ L.k = .load := of_decide_eq_true ((in1 L.k).symm.trans q)
                have hbl1 : 0 < L.bx.length := by rw [ebx, ho.bl, ← ek]; rcases hk with z | z | z <;> rw [z] <;> decide
                have e7 : f7 L.k m.cells m.boxes (L.bx.getD 0 0) L.n0 = m.boxes.set (L.bx.getD 0 0).toNat (if L.k = .load then m.cells.getD L.n0.toNat 0 else L.n0) := if_pos hk
                have bk0 : 0 ≤ L.bx.getD 0 0 ∧ L.bx.getD 0 0 < 4 := by rw [ebx]; exact bok 0
                rw [e7]
                refine ⟨_, rfl, rfl, _, rfl, ?_⟩
                refine ite2 (fun q2 => ?_) (fun q2 => ?_)
                · have hk2 : L.k = .load := of_decide_eq_true ((eq_load L.k).symm.trans q2)
                  refine ⟨_, rfl, _, rfl, L.ac, _, _, _, rfl, rfl, SqL.of h2.c, ints_atI (by rw [en0]; exact nv.1) (by rw [en0, gc]; exact nv.2), _, rfl, _, rfl, L.b, _, _, _, rfl, rfl, SqL.of hb2, ints_atI (p := 0) (by decide) (by omega), L.ab, _, _, _, rfl, rfl, h2.b, ixN_in bk0.1 (by rw [List.length_map, gb]; exact bk0.2), ?_⟩
                  rw [il_set, if_pos hk2]
                  exact ⟨ak1, w1, rfl, h2.setB _, (upd_ne (by rw [eb_, eab]; exact bb)).trans hb2, (upd_ne (by rw [en_, eab]; exact nb)).trans hn2⟩
                · have hk2 : ¬ L.k = .load := fun z => q2 ((eq_load L.k).trans (decide_eq_true z))
                  refine ⟨_, rfl, _, rfl, _, rfl, L.b, _, _, _, rfl, rfl, SqL.of hb2, ints_atI (p := 0) (by decide) (by omega), L.ab, _, _, _, rfl, rfl, h2.b, ixN_in bk0.1 (by rw [List.length_map, gb]; exact bk0.2), ?_⟩
                  rw [il_set, if_neg hk2]
                  exact ⟨ak1, w1, rfl, h2.setB _, (upd_ne (by rw [eb_, eab]; exact bb)).trans hb2, (upd_ne (by rw [en_, eab]; exact nb)).trans hn2⟩
              · have hk : ¬ (L.k = .take ∨ L.k = .takeL ∨ L.k = .load) := fun z => q ((in1 L.k).trans (decide_eq_true z))
                have e7 : f7 L.k m.cells m.boxes (L.bx.getD 0 0) L.n0 = m.boxes := if_neg hk
                rw [e7]
                exact ⟨ak1, w1, rfl, h2, hb2, hn2⟩
            have l7 : (f7 L.k m.cells m.boxes (L.bx.getD 0 0) L.n0).length = 4 := by unfold f7; split <;> simp [gb]
            generalize eb7 : f7 L.k m.cells m.boxes (L.bx.getD 0 0) L.n0 = bs7 at l7
            -- move, add, less
            rintro σ1 H1 ⟨ak1, w1, rfl, h1, hb1, hn1⟩
            refine ⟨LMid H L m.cells (f8 L.k bs7 (L.bx.getD 0 0) L.x L.y) m.calls m.says (m.past ++ [m.place]) (m.place + (r.size : Nat)) "", ?_, ?_⟩
            · refine ⟨_, rfl, (by show 3 ≤ sizeLine; decide), fun tq htq => ⟨tq, _, rfl, .inr (SqT.of upd_same), rfl, rfl, _, rfl, ?_⟩⟩
              have h2 := h1.same (Same.new (o := .tup [V.str "move", V.str "add", V.str "less"]) htq)
              have hb2 := Same.new (o := .tup [V.str "move", V.str "add", V.str "less"]) htq _ _ hb1
              have hn2 := Same.new (o := .tup [V.str "move", V.str "add", V.str "less"]) htq _ _ hn1
              refine ite2 (fun q => ?_) (fun q => ?_)
              · have hk : L.k = .move ∨ L.k = .add ∨ L.k = .less := of_decide_eq_true ((in2 L.k).symm.trans q)
                have hbl1 : 0 < L.bx.length := by rw [ebx, ho.bl, ← ek]; rcases hk with z | z | z <;> rw [z] <;> decide
                have e8 : f8 L.k bs7 (L.bx.getD 0 0) L.x L.y = bs7.set (L.bx.getD 0 0).toNat ((if L.k = .move then L.y else if L.k = .add then L.x + L.y else L.x - L.y) % 256) := if_pos hk
                have bk0 : 0 ≤ L.bx.getD 0 0 ∧ L.bx.getD 0 0 < 4 := by rw [ebx]; exact bok 0
                rw [e8]
                refine fun d hd => ?_
                refine ⟨_, rfl, _, rfl, _, rfl, _, _, rfl, rfl, _, rfl, _, rfl, _, _, rfl, rfl, upd_same, [(Sum.inr "move", V.int L.y), (Sum.inr "add", V.int (L.x + L.y)), (Sum.inr "less", V.int (L.x - L.y))], rfl, (by show 3 ≤ 15; decide), ?_⟩
                have sd : Same (upd H1 tq (.tup [V.str "move", V.str "add", V.str "less"])) (upd (upd (upd H1 tq (.tup [V.str "move", V.str "add", V.str "less"])) d (.dK [])) d (.dK (mergeK [] [(Sum.inr "move", V.int L.y), (Sum.inr "add", V.int (L.x + L.y)), (Sum.inr "less", V.int (L.x - L.y))]))) := (Same.new hd).putNew hd
                have h3 := h2.same sd
                have hb3 := sd _ _ hb2
                have hn3 := sd _ _ hn2
                have dg := DGet.k (k := Sum.inr L.k.str) (H := upd (upd (upd H1 tq (.tup [V.str "move", V.str "add", V.str "less"])) d (.dK [])) d (.dK (mergeK [] [(Sum.inr "move", V.int L.y), (Sum.inr "add", V.int (L.x + L.y)), (Sum.inr "less", V.int (L.x - L.y))]))) (a := d) upd_same
                rw [dict_at hk] at dg
                refine ⟨_, rfl, d, _, rfl, dg, _, _, rfl, rfl, (by show (0 : Int) < 256; decide), ?_⟩
                refine ⟨_, rfl, _, rfl, L.b, _, _, _, rfl, rfl, SqL.of hb3, ints_atI (p := 0) (by decide) (by omega), L.ab, _, _, _, rfl, rfl, h3.b, ixN_in bk0.1 (by rw [List.length_map, l7]; exact bk0.2), ?_⟩
                rw [il_set]
                exact ⟨ak1, w1, rfl, h3.setB _, (upd_ne (by rw [eb_, eab]; exact bb)).trans hb3, (upd_ne (by rw [en_, eab]; exact nb)).trans hn3⟩
              · have hk : ¬ (L.k = .move ∨ L.k = .add ∨ L.k = .less) := fun z => q ((in2 L.k).trans (decide_eq_true z))
                have e8 : f8 L.k bs7 (L.bx.getD 0 0) L.x L.y = bs7 := if_neg hk
                rw [e8]
                exact ⟨ak1, w1, rfl, h2, hb2, hn2⟩
            generalize eb8 : f8 L.k bs7 (L.bx.getD 0 0) L.x L.y = bs8
            -- store
            rintro σ1 H1 ⟨ak1, w1, rfl, h1, hb1, hn1⟩
            refine ⟨LMid H L (f9 L.k m.cells L.n0 L.x) bs8 m.calls m.says (m.past ++ [m.place]) (m.place + (r.size : Nat)) "", ?_, ?_⟩
            · refine ⟨_, rfl, rfl, _, rfl, ?_⟩
              refine ite2 (fun q => ?_) (fun q => ?_)
              · have hk : L.k = .store := of_decide_eq_true ((eq_store L.k).symm.trans q)
                have e9 : f9 L.k m.cells L.n0 L.x = m.cells.set L.n0.toNat L.x := if_pos hk
                rw [e9]
                refine ⟨_, rfl, _, rfl, _, rfl, L.ac, _, _, _, rfl, rfl, h1.c, ixN_in (by rw [en0]; exact nv.1) (by rw [List.length_map, gc, en0]; exact nv.2), ?_⟩
                rw [il_set]
                exact ⟨ak1, w1, rfl, h1.setC _, (upd_ne (by rw [eb_, eac]; exact ba)).trans hb1, (upd_ne (by rw [en_, eac]; exact na)).trans hn1⟩
              · have hk : ¬ L.k = .store := fun z => q ((eq_store L.k).trans (decide_eq_true z))
                have e9 : f9 L.k m.cells L.n0 L.x = m.cells := if_neg hk
                rw [e9]
                exact ⟨ak1, w1, rfl, h1, hb1, hn1⟩
            have l9 : (f9 L.k m.cells L.n0 L.x).length = 256 := by unfold f9; split <;> simp [gc]
            generalize ec9 : f9 L.k m.cells L.n0 L.x = cs9 at l9
            -- copy
            rintro σ1 H1 ⟨ak1, w1, rfl, h1, hb1, hn1⟩
            refine ⟨LMid H L (f10 L.k cs9 L.n0 (L.nm.getD 1 0)) bs8 m.calls m.says (m.past ++ [m.place]) (m.place + (r.size : Nat)) "", ?_, ?_⟩
            · refine ⟨_, rfl, rfl, _, rfl, ?_⟩
              refine ite2 (fun q => ?_) (fun q => ?_)
              · have hk : L.k = .copy := of_decide_eq_true ((eq_copy L.k).symm.trans q)
                have hnl : L.nm.length = 2 := by rw [enm, ho.nl, ← ek, hk] <;> rfl
                have e10 : f10 L.k cs9 L.n0 (L.nm.getD 1 0) = cs9.set (L.nm.getD 1 0).toNat (cs9.getD L.n0.toNat 0) := if_pos hk
                rw [e10]
                refine ⟨_, rfl, _, rfl, L.ac, _, _, _, rfl, rfl, SqL.of h1.c, ints_atI (by rw [en0]; exact nv.1) (by rw [l9, en0]; exact nv.2), _, rfl, _, rfl, L.n, _, _, _, rfl, rfl, SqL.of hn1, ints_atI (p := 1) (by decide) (by omega), L.ac, _, _, _, rfl, rfl, h1.c, ixN_in (by rw [enm]; exact nv1.1) (by rw [List.length_map, l9, enm]; exact nv1.2), ?_⟩
                rw [il_set]
                exact ⟨ak1, w1, rfl, h1.setC _, (upd_ne (by rw [eb_, eac]; exact ba)).trans hb1, (upd_ne (by rw [en_, eac]; exact na)).trans hn1⟩
              · have hk : ¬ L.k = .copy := fun z => q ((eq_copy L.k).trans (decide_eq_true z))
                have e10 : f10 L.k cs9 L.n0 (L.nm.getD 1 0) = cs9 := if_neg hk
                rw [e10]
                exact ⟨ak1, w1, rfl, h1, hb1, hn1⟩
            generalize ec10 : f10 L.k cs9 L.n0 (L.nm.getD 1 0) = cs10
            -- say
            rintro σ1 H1 ⟨ak1, w1, rfl, h1, hb1, hn1⟩
            refine ⟨LMid H L cs10 bs8 m.calls (f11 L.k m.says L.x) (m.past ++ [m.place]) (m.place + (r.size : Nat)) "", ?_, ?_⟩
            · refine ⟨_, rfl, rfl, _, rfl, ?_⟩
              refine ite2 (fun q => ?_) (fun q => ?_)
              · have hk : L.k = .say := of_decide_eq_true ((eq_say L.k).symm.trans q)
                have e11 : f11 L.k m.says L.x = m.says ++ [L.x] := if_pos hk
                rw [e11]
                refine ⟨_, rfl, .inl ⟨rfl, _, SqL.of h1.s⟩, _, rfl, L.as, _, _, rfl, rfl, h1.s, ?_, ?_⟩
                · rw [List.length_map]
                  have := g.s
                  exact Nat.lt_of_le_of_lt (show m.says.length ≤ 1000 by omega) (by decide)
                rw [il_app]
                exact ⟨ak1, w1, rfl, h1.setS _, (upd_ne (by rw [eb_, eas]; exact bs)).trans hb1, (upd_ne (by rw [en_, eas]; exact ns)).trans hn1⟩
              · have hk : ¬ L.k = .say := fun z => q ((eq_say L.k).trans (decide_eq_true z))
                have e11 : f11 L.k m.says L.x = m.says := if_neg hk
                rw [e11]
                exact ⟨ak1, w1, rfl, h1, hb1, hn1⟩
            generalize es11 : f11 L.k m.says L.x = ss11
            -- jump, zero, same
            rintro σ1 H1 ⟨ak1, w1, rfl, h1, hb1, hn1⟩
            refine ⟨LMid H L cs10 bs8 m.calls ss11 (m.past ++ [m.place]) (f12 L.k L.n0 L.x L.y (m.place + (r.size : Nat))) "", ?_, ?_⟩
            · have setpl : ∀ q : L.k = .jump ∨ (L.k = .zero ∧ L.x = 0) ∨ (L.k = .same ∧ L.x = L.y), f12 L.k L.n0 L.x L.y (m.place + (r.size : Nat)) = L.n0 := fun q => if_pos q
              have keep : ∀ q : ¬ (L.k = .jump ∨ (L.k = .zero ∧ L.x = 0) ∨ (L.k = .same ∧ L.x = L.y)), f12 L.k L.n0 L.x L.y (m.place + (r.size : Nat)) = m.place + (r.size : Nat) := fun q => if_neg q
              refine ⟨_, rfl, rfl, _, rfl, ?_⟩
              refine ite2 (fun q => ?_) (fun q => ?_)
              · have hk : L.k = .jump := of_decide_eq_true ((eq_jump L.k).symm.trans q)
                rw [setpl (.inl hk)]
                exact iteT ⟨_, rfl, ak1, w1, rfl, h1, hb1, hn1⟩
              · have hj : ¬ L.k = .jump := fun z => q ((eq_jump L.k).trans (decide_eq_true z))
                refine ⟨_, rfl, rfl, _, rfl, ?_⟩
                by_cases hz : L.k = .zero
                · rw [show decide (V.str L.k.str = V.str "zero") = true from (eq_zero L.k).trans (decide_eq_true hz)]
                  refine iteT ⟨_, rfl, rfl, _, rfl, ?_⟩
                  by_cases hx : L.x = 0
                  · rw [decide_eq_true (congrArg V.int hx), setpl (.inr (.inl ⟨hz, hx⟩))]
                    exact iteT (iteT ⟨_, rfl, ak1, w1, rfl, h1, hb1, hn1⟩)
                  · have hs : ¬ L.k = .same := by rw [hz]; decide
                    rw [decide_eq_false (fun q => hx (V.int.inj q)), keep (by simp [hj, hx, hs])]
                    refine iteF ⟨_, rfl, rfl, _, rfl, ?_⟩
                    rw [show decide (V.str L.k.str = V.str "same") = false from (eq_same L.k).trans (decide_eq_false hs)]
                    exact iteF (iteF ⟨ak1, w1, rfl, h1, hb1, hn1⟩)
                · rw [show decide (V.str L.k.str = V.str "zero") = false from (eq_zero L.k).trans (decide_eq_false hz)]
                  refine iteF (iteF ⟨_, rfl, rfl, _, rfl, ?_⟩)
                  by_cases hs : L.k = .same
                  · rw [show decide (V.str L.k.str = V.str "same") = true from (eq_same L.k).trans (decide_eq_true hs)]
                    refine iteT ⟨_, rfl, _, rfl, rfl, _, rfl, ?_⟩
                    by_cases hx : L.x = L.y
                    · rw [decide_eq_true (congrArg V.int hx), setpl (.inr (.inr ⟨hs, hx⟩))]
                      exact iteT ⟨_, rfl, ak1, w1, rfl, h1, hb1, hn1⟩
                    · rw [decide_eq_false (fun q => hx (V.int.inj q)), keep (by simp [hj, hx, hz])]
                      exact iteF ⟨ak1, w1, rfl, h1, hb1, hn1⟩
                  · rw [show decide (V.str L.k.str = V.str "same") = false from (eq_same L.k).trans (decide_eq_false hs), keep (by simp [hj, hz, hs])]
                    exact iteF (iteF ⟨ak1, w1, rfl, h1, hb1, hn1⟩)
            generalize ep12 : f12 L.k L.n0 L.x L.y (m.place + (r.size : Nat)) = pl12
            -- skip
            rintro σ1 H1 ⟨ak1, w1, rfl, h1, hb1, hn1⟩
            refine ⟨LMid H L cs10 bs8 m.calls ss11 (m.past ++ [m.place]) (f13 L.k L.n0 L.behind pl12) "", ?_, ?_⟩
            · refine ⟨_, rfl, rfl, _, rfl, ?_⟩
              refine ite2 (fun q => ?_) (fun q => ?_)
              · have hk : L.k = .skip := of_decide_eq_true ((eq_skip L.k).symm.trans q)
                rw [show f13 L.k L.n0 L.behind pl12 = L.behind + (L.n0 + 128) % 256 - 128 from if_pos hk]
                exact ⟨_, rfl, _, rfl, _, _, rfl, rfl, _, _, rfl, rfl, (by show (0 : Int) < 256; decide), _, _, rfl, rfl, _, _, rfl, rfl, ak1, w1, rfl, h1, hb1, hn1⟩
              · have hk : ¬ L.k = .skip := fun z => q ((eq_skip L.k).trans (decide_eq_true z))
                rw [show f13 L.k L.n0 L.behind pl12 = pl12 from if_neg hk]
                exact ⟨_, rfl, ak1, w1, rfl, h1, hb1, hn1⟩
            generalize ep13 : f13 L.k L.n0 L.behind pl12 = pl13
            -- call
            rintro σ1 H1 ⟨ak1, w1, rfl, h1, hb1, hn1⟩
            have gk := g.k
            refine ⟨LMid H L cs10 bs8 (f14k L.k m.calls L.behind) ss11 (m.past ++ [m.place]) (f14p L.k L.n0 pl13) (f14w L.k m.calls), ?_, ?_⟩
            · refine ⟨_, rfl, rfl, _, rfl, ?_⟩
              refine ite2 (fun q => ?_) (fun q => ?_)
              · have hk : L.k = .call := of_decide_eq_true ((eq_call L.k).symm.trans q)
                rw [show f14p L.k L.n0 pl13 = L.n0 from if_pos hk]
                refine ⟨_, rfl, ak1, _, rfl, .inl (SqL.of h1.k), rfl, _, rfl, ?_⟩
                rw [List.length_map]
                by_cases hc : m.calls.length = 16
                · rw [decide_eq_true (show V.int ((m.calls.length : Nat) : Int) = V.int 16 by rw [hc] <;> rfl)]
                  rw [show f14k L.k m.calls L.behind = m.calls from if_neg (fun z => z.2 hc), show f14w L.k m.calls = "deep" from if_pos ⟨hk, hc⟩]
                  refine iteT ?_
                  refine ⟨_, rfl, _, rfl, (by show 1 ≤ sizeLine; decide), fun z hz => ?_⟩
                  refine ⟨_, rfl, rfl, .inr ⟨false, by decide +kernel, z, _, _, rfl, rfl, upd_same, by decide, by decide, (by show 1 * 0 ≤ sizeLine; decide), fun zr hzr => ?_⟩⟩
                  have ez : (List.replicate (if (false : Bool) = true then (1 : Int) else 0).toNat [V.int L.behind]).flatten = [] := rfl
                  rw [ez]
                  have sA := (Same.new (o := .lst [V.int L.behind]) hz).add (o := .lst []) hzr
                  have eA : upd (upd H1 z (.lst [V.int L.behind])) zr (.lst []) zr = some (.lst []) := upd_same
                  have h3 := h1.same sA
                  have hb3 := sA _ _ hb1
                  have hn3 := sA _ _ hn1
                  generalize upd (upd H1 z (.lst [V.int L.behind])) zr (.lst []) = HA at eA h3 hb3 hn3 ⊢
                  refine ⟨ak1, zr, _, _, rfl, rfl, h3.k, eA, ?_, fun kk hkk => ?_⟩
                  · have e : (il m.calls).length = m.calls.length := List.length_map ..
                    exact Nat.le_trans (show (il m.calls).length + ([] : List V).length ≤ 17 by simp; omega) (by decide)
                  rw [List.append_nil]
                  exact ⟨_, rfl, kk, w1, rfl, h3.newK hkk, (upd_ne (ne_of_none hb3 hkk)).trans hb3, (upd_ne (ne_of_none hn3 hkk)).trans hn3⟩
                · rw [decide_eq_false (show ¬ V.int ((m.calls.length : Nat) : Int) = V.int 16 from fun z => hc (by have := V.int.inj z; omega))]
                  rw [show f14k L.k m.calls L.behind = m.calls ++ [L.behind] from if_pos ⟨hk, hc⟩, show f14w L.k m.calls = "" from if_neg (fun z => hc z.2)]
                  refine iteF ?_
                  refine ⟨_, rfl, _, rfl, (by show 1 ≤ sizeLine; decide), fun z hz => ?_⟩
                  refine ⟨_, rfl, rfl, .inr ⟨true, by decide +kernel, z, _, _, rfl, rfl, upd_same, by decide, by decide, (by show 1 * 1 ≤ sizeLine; decide), fun zr hzr => ?_⟩⟩
                  have ez : (List.replicate (if (true : Bool) = true then (1 : Int) else 0).toNat [V.int L.behind]).flatten = [V.int L.behind] := rfl
                  rw [ez]
                  have sA := (Same.new (o := .lst [V.int L.behind]) hz).add (o := .lst [V.int L.behind]) hzr
                  have eA : upd (upd H1 z (.lst [V.int L.behind])) zr (.lst [V.int L.behind]) zr = some (.lst [V.int L.behind]) := upd_same
                  have h3 := h1.same sA
                  have hb3 := sA _ _ hb1
                  have hn3 := sA _ _ hn1
                  generalize upd (upd H1 z (.lst [V.int L.behind])) zr (.lst [V.int L.behind]) = HA at eA h3 hb3 hn3 ⊢
                  refine ⟨ak1, zr, _, _, rfl, rfl, h3.k, eA, ?_, fun kk hkk => ?_⟩
                  · have e : (il m.calls).length = m.calls.length := List.length_map ..
                    exact Nat.le_trans (show (il m.calls).length + ([V.int L.behind] : List V).length ≤ 17 by simp; omega) (by decide)
                  rw [il_app]
                  exact ⟨_, rfl, kk, w1, rfl, h3.newK hkk, (upd_ne (ne_of_none hb3 hkk)).trans hb3, (upd_ne (ne_of_none hn3 hkk)).trans hn3⟩
              · have hk : ¬ L.k = .call := fun z => q ((eq_call L.k).trans (decide_eq_true z))
                rw [show f14p L.k L.n0 pl13 = pl13 from if_neg hk, show f14k L.k m.calls L.behind = m.calls from if_neg (fun z => hk z.1), show f14w L.k m.calls = "" from if_neg (fun z => hk z.1)]
                exact ⟨ak1, w1, rfl, h1, hb1, hn1⟩
            have l14 : (f14k L.k m.calls L.behind).length ≤ 17 := by
              unfold f14k
              split
              · simp
                omega
              · omega
            generalize ek14 : f14k L.k m.calls L.behind = ks14 at l14
            generalize ep14 : f14p L.k L.n0 pl13 = pl14
            generalize ew14 : f14w L.k m.calls = wy14
            -- back
            rintro σ1 H1 ⟨ak1, w1, rfl, h1, hb1, hn1⟩
            refine ⟨LMid H L cs10 bs8 (f15k L.k ks14) ss11 (m.past ++ [m.place]) (f15p L.k ks14 pl14) (f15w L.k ks14 wy14), ?_, ?_⟩
            · refine ⟨_, rfl, rfl, _, rfl, ?_⟩
              refine ite2 (fun q => ?_) (fun q => ?_)
              · have hk : L.k = .back := of_decide_eq_true ((eq_back L.k).symm.trans q)
                rw [show f15k L.k ks14 = ks14.dropLast from if_pos hk, show f15p L.k ks14 pl14 = ks14.getLastD pl14 from if_pos hk, show f15w L.k ks14 wy14 = (if ks14 = [] then ("back" : Str) else "") from if_pos hk]
                refine ⟨_, rfl, Nat.zero_le _, fun z hz => ?_⟩
                have sA := Same.new (o := .lst []) hz
                have h3 := h1.same sA
                have hb3 := sA _ _ hb1
                have hn3 := sA _ _ hn1
                have eA : upd H1 z (.lst []) z = some (.lst []) := upd_same
                generalize upd H1 z (.lst []) = HA at eA h3 hb3 hn3 ⊢
                refine ⟨.list (dI ks14), .list [], .lst (SqL.of h3.k) (dp_all ks14), .lst (SqL.of eA) .nil, shaped_ints ks14, rfl, _, rfl, ?_⟩
                have ev : PyData.eqv (.list (dI ks14)) (.list []) = decide (ks14 = []) := eqv_ints ks14 []
                rw [ev]
                refine ite_tC ?_
                rw [show (if decide (ks14 = []) = true then V.str "back" else V.str "") = V.str (if ks14 = [] then ("back" : Str) else "") from by by_cases z : ks14 = [] <;> simp [z]]
                refine ⟨_, rfl, (by show 1 ≤ sizeLine; decide), fun z1 hz1 => ?_⟩
                refine ⟨_, rfl, z1, ak1, _, _, rfl, rfl, upd_same, (upd_ne (ne_of_none h3.k hz1)).trans h3.k, ?_, fun z2 hz2 => ?_⟩
                · exact Nat.le_trans (show ([V.int pl14] : List V).length + (il ks14).length ≤ 18 by simp; omega) (by decide)
                refine ⟨_, rfl, z2, _, _, _, rfl, rfl, SqL.of upd_same, last_at pl14 ks14, ?_⟩
                have sB := (Same.new (o := .lst [V.int pl14]) hz1).add (o := .lst ([V.int pl14] ++ il ks14)) hz2
                have h4 := h3.same sB
                have hb4 := sB _ _ hb3
                have hn4 := sB _ _ hn3
                generalize upd (upd HA z1 (.lst [V.int pl14])) z2 (.lst ([V.int pl14] ++ il ks14)) = HB at h4 hb4 hn4 ⊢
                refine ⟨_, rfl, _, rfl, _, rfl, ak1, _, rfl, SqL.of h4.k, fun kk hkk => ?_⟩
                rw [cut_last]
                exact ⟨_, _, rfl, kk, w1, rfl, h4.newK hkk, (upd_ne (ne_of_none hb4 hkk)).trans hb4, (upd_ne (ne_of_none hn4 hkk)).trans hn4⟩
              · have hk : ¬ L.k = .back := fun z => q ((eq_back L.k).trans (decide_eq_true z))
                rw [show f15k L.k ks14 = ks14 from if_neg hk, show f15p L.k ks14 pl14 = pl14 from if_neg hk, show f15w L.k ks14 wy14 = wy14 from if_neg hk]
                exact ⟨ak1, w1, rfl, h1, hb1, hn1⟩
            -- stop
            rintro σ1 H1 ⟨ak1, w1, rfl, h1, hb1, hn1⟩
            have g6 : Good { m with past := m.past ++ [m.place], place := m.place + (r.size : Nat) } := ⟨g.c, g.b, g.cv, g.bv, g.k, by have := g.s; simp; omega⟩
            obtain ⟨e1, e2, e3, e4, e5, e6⟩ := final_eq r.k r.bx r.nm { m with past := m.past ++ [m.place], place := m.place + (r.size : Nat) } g6 hw ho.nv
            rw [step_some hr2] at mst ers gst
            have epa := doK_past r.k r.bx r.nm { m with past := m.past ++ [m.place], place := m.place + (r.size : Nat) }
            generalize doK r.k r.bx r.nm { m with past := m.past ++ [m.place], place := m.place + (r.size : Nat) } = m2 at e1 e2 e3 e4 e5 e6 mst ers gst epa
            dsimp only at e1 e2 e3 e4 e5 e6 epa
            have q1 : cs10 = m2.cells := by
              rw [← ec10, ← ec9, ← eLC]
              exact e1
            have q2 : bs8 = m2.boxes := by
              rw [← eb8, ← eb7, ← eLC]
              exact e2
            have q3 : f15k L.k ks14 = m2.calls := by
              rw [← ek14, ← eLC]
              exact e3
            have q4 : ss11 = m2.says := by
              rw [← es11, ← eLC]
              exact e4
            have q5 : f16w L.k (f15w L.k ks14 wy14) = m2.why := by
              rw [← ek14, ← ew14, ← eLC]
              exact e5
            have q6 : m2.why = "" → f15p L.k ks14 pl14 = m2.place := by
              rw [← ek14, ← ep14, ← ep13, ← ep12, ← eLC]
              exact e6
            rw [q1, q2, q3, q4, ← epa] at h1
            rw [eac, eab, eas, eap] at h1
            have hpl2 : m2.past.length ≤ mo := by
              rw [epa]
              simp
              omega
            refine ⟨_, rfl, rfl, _, rfl, ?_⟩
            refine ite2 (fun q => ?_) (fun q => ?_)
            · have hk : L.k = .stop := of_decide_eq_true ((eq_stop L.k).symm.trans q)
              rw [show f16w L.k (f15w L.k ks14 wy14) = "stop" from if_pos hk] at q5
              refine ⟨m2, _, ak1, some (.ref L.t), some (.str L.k.str), some (.ref L.b), some (.ref L.n), some (.int (L.sz : Nat)), some (.int L.behind), some (.int L.n0), some (.int L.x), some (.int L.y), w1, mst, ?_, q6, h1, gst, ers, hpl2⟩
              rw [← q5, ← eLC]
              rfl
            · have hk : ¬ L.k = .stop := fun z => q ((eq_stop L.k).trans (decide_eq_true z))
              rw [show f16w L.k (f15w L.k ks14 wy14) = f15w L.k ks14 wy14 from if_neg hk] at q5
              refine ⟨_, rfl, m2, _, ak1, some (.ref L.t), some (.str L.k.str), some (.ref L.b), some (.ref L.n), some (.int (L.sz : Nat)), some (.int L.behind), some (.int L.n0), some (.int L.x), some (.int L.y), w1, mst, ?_, q6, h1, gst, ers, hpl2⟩
              rw [← q5, ← eLC]
              rfl
      · rw [decide_eq_false (show ¬ ((m.past.length : Nat) : Int) < ((mo : Nat) : Int) by omega)]
        exact iteF (fin fun q => hlt q.2)
    · rw [decide_eq_false (show ¬ V.str m.why = V.str "" from fun q => hw (V.str.inj q))]
      exact iteF (fin fun q => hw q.1)
end
end Rs
namespace Rs
open PySem PySem.Spec PyProof.Rows L2 C8
def EqN : Nat → Hp → V → V → Prop
  | 0, _, _, _ => False
  | n + 1, H, x, y => (∃ i, x = .int i ∧ y = .int i) ∨ (∃ s, x = .str s ∧ y = .str s) ∨
    (∃ a b xs ys, x = .ref a ∧ y = .ref b ∧ H a = some (.lst xs) ∧ H b = some (.lst ys) ∧ xs.length = ys.length ∧ xs.length ≤ 2000 ∧ ∀ (i : Nat) (u v : V), xs[i]? = some u → ys[i]? = some v → EqN n H u v) ∨
    (∃ a b xs ys, x = .ref a ∧ y = .ref b ∧ H a = some (.tup xs) ∧ H b = some (.tup ys) ∧ xs.length = ys.length ∧ xs.length ≤ 2000 ∧ ∀ (i : Nat) (u v : V), xs[i]? = some u → ys[i]? = some v → EqN n H u v)
theorem EqN.mono : ∀ {n : Nat} {H H' : Hp} {x y : V}, EqN n H x y → Same H H' → EqN n H' x y
  | 0, _, _, _, _, h, _ => h
  | n + 1, H, H', x, y, h, s => by
    rcases h with h | h | ⟨a, b, xs, ys, e1, e2, h1, h2, h3, h4, h5⟩ | ⟨a, b, xs, ys, e1, e2, h1, h2, h3, h4, h5⟩
    · exact .inl h
    · exact .inr (.inl h)
    · exact .inr (.inr (.inl ⟨a, b, xs, ys, e1, e2, s _ _ h1, s _ _ h2, h3, h4, fun i u v p q => (h5 i u v p q).mono s⟩))
    · exact .inr (.inr (.inr ⟨a, b, xs, ys, e1, e2, s _ _ h1, s _ _ h2, h3, h4, fun i u v p q => (h5 i u v p q).mono s⟩))
theorem kitTL {K : PySem.W.Frag} {T : String} {r1 r2 r : Bool} (h1 : kitB T "tuple" = some r1) (h2 : kitB T "list" = some r2) (e : r = (r1 || r2)) : PySem.W.kitAny K (.type T) [.type "tuple", .type "list"] = some r := by
  subst e
  refine kitAny_cons (kit_ty h1) (fun q => ?_) (fun q => by rw [q] <;> rfl)
  subst q
  exact kitAny_cons (kit_ty h2) (fun q => by rw [q]; exact kitAny_nil) (fun q => by rw [q] <;> rfl)
def spSame (n : Nat) : Sp := fun vs H Q _ => ∃ x y, vs = [x, y] ∧ EqN n H x y ∧ ∀ H', Same H H' → Q (.bl true) H'
section
variable {P : Program} {w : World} {K : PySem.W.Frag} {mg : Str → Option Value} {base : Heap}
theorem ok_same0 (D : DefAt K mg "_law_same" sD__law_same) : Cal P w K mg base 1 "_law_same" (spSame 0) [] := by
  refine cal_of D sc__law_same (fun _ _ _ _ _ _ us hl => match us, hl with | [_, _], _ => rfl) (fun vs H Q E h => ?_) (fun cdv A outer s H vs Q E hr h => ?_)
  · obtain ⟨x, y, rfl, _⟩ := h
    rfl
  · obtain ⟨x, y, rfl, h, _⟩ := h
    exact h.elim
theorem ok_sameS {n : Nat} (D : DefAt K mg "_law_same" sD__law_same) (T : Txt w K mg) (c__law_same : Cal P w K mg base (n + 1) "_law_same" (spSame n) []) : Cal P w K mg base (n + 2) "_law_same" (spSame (n + 1)) [] := by
  refine cal_of D sc__law_same (fun _ _ _ _ _ _ us hl => match us, hl with | [_, _], _ => rfl) (fun vs H Q E h => ?_) (fun cdv A outer s H vs Q E hr h => ?_)
  · obtain ⟨x, y, rfl, _⟩ := h
    rfl
  · obtain ⟨x, y, rfl, he, k⟩ := h
    refine ⟨_, (pss_cons (ps_if (pt_val (pe_callB call_isiT (by rfl) T.free_isinstance (by decide +kernel) (pa_cons (pv 1) (pa_cons (pe_tup (pa_cons (pe_bltn (by rfl) T.free_tuple (by decide +kernel) (v := .ty "tuple") rfl) (pa_cons (pe_bltn (by rfl) T.free_list (by decide +kernel) (v := .ty "list") rfl) pa_nil))) pa_nil))))
   (pss_cons (ps_if (PW.pt (pw_or (pt_not (pt_val (pe_callB call_isiT (by rfl) T.free_isinstance (by decide +kernel) (pa_cons (pv 0) (pa_cons (pe_tup (pa_cons (pe_bltn (by rfl) T.free_tuple (by decide +kernel) (v := .ty "tuple") rfl) (pa_cons (pe_bltn (by rfl) T.free_list (by decide +kernel) (v := .ty "list") rfl) pa_nil))) pa_nil))))) (pw_or1 (pt_cmpR op_ne (pe_callB call_isi (by rfl) T.free_isinstance (by decide +kernel) (pa_cons (pv 0) (pa_cons (pe_bltn (by rfl) T.free_list (by decide +kernel) (v := .ty "list") rfl) pa_nil))) (pe_callB call_isi (by rfl) T.free_isinstance (by decide +kernel) (pa_cons (pv 1) (pa_cons (pe_bltn (by rfl) T.free_list (by decide +kernel) (v := .ty "list") rfl) pa_nil))) (nomark _)))))
   (pss_one (ps_ret pe_bl))
   pss_nil)
  (pss_cons (ps_if (pt_cmpR op_ne (pe_callB call_len_seq (by rfl) T.free_len (by decide +kernel) (pa_cons (pv 0) pa_nil)) (pe_callB call_len_seq (by rfl) T.free_len (by decide +kernel) (pa_cons (pv 1) pa_nil)) (nomark _))
   (pss_one (ps_ret pe_bl))
   pss_nil)
  (pss_one (ps_ret (pe_cmpR (op_eqD hr.units) (pe_lc (own := [("_law_k", 3)]) (g := gName 3) (by rfl) sc__law_same.nd (pi_range1 (by rfl) T.free_range (pa_cons (pe_callB call_len_seq (by rfl) T.free_len (by decide +kernel) (pa_cons (pv 1) pa_nil)) pa_nil)) (blkOk_by (own := [("_law_k", 3)]) (N := N__law_same) (sc := defScope sD__law_same) (by decide +kernel)) (fun _ _ _ _ _ => (pg_name (i := 3) sc__law_same.nd rfl (Or.inl rfl))) (fun _ _ _ _ _ => (pts_one (pt_not (pt_val (pe_c c__law_same hr (Nat.le_refl _) (by rfl) (pa_cons (pe_ix (r := rIx K) ix_seq (pv 0) (pv 3) (fun _ _ => rfl)) (pa_cons (pe_ix (r := rIx K) ix_seq (pv 1) (pv 3) (fun _ _ => rfl)) pa_nil))))))) (fun _ _ _ _ _ => (pv 3))) (pe_lst pa_nil) (nomark _))))))
   pss_nil)
  (pss_cons (ps_set (i := 2) sc__law_same.nd rfl (Or.inl rfl) (pe_and (pe_cmpR op_eq (pe_callB call_isi (by rfl) T.free_isinstance (by decide +kernel) (pa_cons (pv 0) (pa_cons (pe_bltn (by rfl) T.free_bool (by decide +kernel) (v := .ty "bool") rfl) pa_nil))) (pe_callB call_isi (by rfl) T.free_isinstance (by decide +kernel) (pa_cons (pv 1) (pa_cons (pe_bltn (by rfl) T.free_bool (by decide +kernel) (v := .ty "bool") rfl) pa_nil))) (nomark _)) (pe_one (pe_cmpR op_eq (pe_callB call_isi (by rfl) T.free_isinstance (by decide +kernel) (pa_cons (pv 0) (pa_cons (pe_bltn (by rfl) T.free_int (by decide +kernel) (v := .ty "int") rfl) pa_nil))) (pe_callB call_isi (by rfl) T.free_isinstance (by decide +kernel) (pa_cons (pv 1) (pa_cons (pe_bltn (by rfl) T.free_int (by decide +kernel) (v := .ty "int") rfl) pa_nil))) (nomark _)))))
  (pss_one (ps_ret (pe_and (pv 2) (pe_one (pe_cmpR op_eq (pv 0) (pv 1) (nomark _)))))))), ?_⟩
    rcases he with ⟨i, rfl, rfl⟩ | ⟨z, rfl, rfl⟩ | ⟨a, b, xs, ys, rfl, rfl, ha, hb, hlen, hle, hall⟩ | ⟨a, b, xs, ys, rfl, rfl, ha, hb, hlen, hle, hall⟩
    · -- int
      refine ⟨_, rfl, (by show 2 ≤ sizeLine; decide), fun tp htp => ⟨_, tp, _, _, _, false, rfl, upd_same, .cons (.ty _) (.cons (.ty _) .nil), .base (.int _), kitTL (r1 := false) (r2 := false) (by decide +kernel) (by decide +kernel) rfl, false, rfl, ?_⟩⟩
      refine iteF ?_
      refine ⟨_, rfl, _, _, _, _, _, rfl, .ty _, .base (.int _), kit_ty (r := false) (by decide +kernel), _, rfl, _, _, _, _, _, rfl, .ty _, .base (.int _), kit_ty (r := false) (by decide +kernel), rfl, true, rfl, iteT ?_⟩
      refine ⟨_, rfl, _, _, _, _, _, rfl, .ty _, .base (.int _), kit_ty (r := true) (by decide +kernel), _, rfl, _, _, _, _, _, rfl, .ty _, .base (.int _), kit_ty (r := true) (by decide +kernel), rfl, ?_⟩
      refine ⟨_, rfl, true, rfl, iteT ⟨_, rfl, _, rfl, rfl, ?_⟩⟩
      rw [decide_eq_true rfl]
      exact k _ (Same.new htp)
    · -- str
      refine ⟨_, rfl, (by show 2 ≤ sizeLine; decide), fun tp htp => ⟨_, tp, _, _, _, false, rfl, upd_same, .cons (.ty _) (.cons (.ty _) .nil), .base (.str _), kitTL (r1 := false) (r2 := false) (by decide +kernel) (by decide +kernel) rfl, false, rfl, ?_⟩⟩
      refine iteF ?_
      refine ⟨_, rfl, _, _, _, _, _, rfl, .ty _, .base (.str _), kit_ty (r := false) (by decide +kernel), _, rfl, _, _, _, _, _, rfl, .ty _, .base (.str _), kit_ty (r := false) (by decide +kernel), rfl, true, rfl, iteT ?_⟩
      refine ⟨_, rfl, _, _, _, _, _, rfl, .ty _, .base (.str _), kit_ty (r := false) (by decide +kernel), _, rfl, _, _, _, _, _, rfl, .ty _, .base (.str _), kit_ty (r := false) (by decide +kernel), rfl, ?_⟩
      refine ⟨_, rfl, true, rfl, iteT ⟨_, rfl, _, rfl, rfl, ?_⟩⟩
      rw [decide_eq_true rfl]
      exact k _ (Same.new htp)
    · -- list
      refine ⟨_, rfl, (by show 2 ≤ sizeLine; decide), fun tp htp => ⟨_, tp, _, _, _, true, rfl, upd_same, .cons (.ty _) (.cons (.ty _) .nil), .base (.lst (Same.new htp _ _ hb)), kitTL (r1 := false) (r2 := true) (by decide +kernel) (by decide +kernel) rfl, true, rfl, ?_⟩⟩
      refine iteT ?_
      have s1 : Same H (upd H tp (.tup [V.ty "tuple", V.ty "list"])) := Same.new htp
      generalize upd H tp (.tup [V.ty "tuple", V.ty "list"]) = H1 at s1 ⊢
      have ha1 := s1 _ _ ha
      have hb1 := s1 _ _ hb
      refine ⟨_, rfl, (by show 2 ≤ sizeLine; decide), fun tq htq => ⟨_, tq, _, _, _, true, rfl, upd_same, .cons (.ty _) (.cons (.ty _) .nil), .base (.lst (Same.new htq _ _ ha1)), kitTL (r1 := false) (r2 := true) (by decide +kernel) (by decide +kernel) rfl, true, rfl, ?_⟩⟩
      have s2 : Same H (upd H1 tq (.tup [V.ty "tuple", V.ty "list"])) := s1.add htq
      generalize upd H1 tq (.tup [V.ty "tuple", V.ty "list"]) = H2 at s2 ⊢
      have ha2 := s2 _ _ ha
      have hb2 := s2 _ _ hb
      refine iteF ?_
      refine ⟨_, rfl, _, _, _, _, _, rfl, .ty _, .base (.lst ha2), kit_ty (r := true) (by decide +kernel), _, rfl, _, _, _, _, _, rfl, .ty _, .base (.lst hb2), kit_ty (r := true) (by decide +kernel), rfl, _, rfl, ?_⟩
      refine iteF ?_
      refine ⟨_, rfl, a, _, rfl, .inl (SqL.of ha2), _, rfl, b, _, rfl, .inl (SqL.of hb2), rfl, _, rfl, ?_⟩
      rw [hlen, decide_eq_true rfl]
      refine iteF ?_
      refine ⟨_, rfl, b, _, rfl, .inl (SqL.of hb2), _, rfl, by omega, by omega, fun Dl hD => ?_⟩
      refine lc_range (n := ys.length) (fun i H' => Same H2 H' ∧ H' Dl = some (.lst [])) ⟨Same.new hD, upd_same⟩ ?_ ?_
      · rintro i H3 hi ⟨s3, hDl⟩
        obtain ⟨v, hv⟩ : ∃ v, ys[i]? = some v := ⟨_, List.getElem?_eq_getElem hi⟩
        obtain ⟨u, hu⟩ : ∃ u, xs[i]? = some u := ⟨_, List.getElem?_eq_getElem (by omega)⟩
        have e0 : (0 : Int) + ((i : Nat) : Int) = ((i : Nat) : Int) := by omega
        refine ⟨rfl, ?_⟩
        refine ⟨_, rfl, _, rfl, .inl ⟨a, _, _, _, rfl, rfl, SqL.of (s3 _ _ ha2), (by rw [e0]; exact atI_nat hu), ?_⟩⟩
        refine ⟨_, rfl, _, rfl, .inl ⟨b, _, _, _, rfl, rfl, SqL.of (s3 _ _ hb2), (by rw [e0]; exact atI_nat hv), ?_⟩⟩
        refine ⟨u, v, rfl, (hall i u v hu hv).mono (s2.trans s3), fun H4 s4 => ⟨true, rfl, ?_⟩⟩
        exact iteF ⟨s3.trans s4, s4 _ _ hDl⟩
      · rintro H3 ⟨s3, hDl⟩
        refine ⟨Nat.zero_le _, fun z hz => ?_⟩
        exact ⟨.list [], .list [], .lst (SqL.of (Same.new hz _ _ hDl)) .nil, .lst (SqL.of upd_same) .nil, rfl, rfl, k _ ((s2.trans s3).add hz)⟩
    · -- tuple
      refine ⟨_, rfl, (by show 2 ≤ sizeLine; decide), fun tp htp => ⟨_, tp, _, _, _, true, rfl, upd_same, .cons (.ty _) (.cons (.ty _) .nil), .base (.tup (Same.new htp _ _ hb)), kitTL (r1 := true) (r2 := false) (by decide +kernel) (by decide +kernel) rfl, true, rfl, ?_⟩⟩
      refine iteT ?_
      have s1 : Same H (upd H tp (.tup [V.ty "tuple", V.ty "list"])) := Same.new htp
      generalize upd H tp (.tup [V.ty "tuple", V.ty "list"]) = H1 at s1 ⊢
      have ha1 := s1 _ _ ha
      have hb1 := s1 _ _ hb
      refine ⟨_, rfl, (by show 2 ≤ sizeLine; decide), fun tq htq => ⟨_, tq, _, _, _, true, rfl, upd_same, .cons (.ty _) (.cons (.ty _) .nil), .base (.tup (Same.new htq _ _ ha1)), kitTL (r1 := true) (r2 := false) (by decide +kernel) (by decide +kernel) rfl, true, rfl, ?_⟩⟩
      have s2 : Same H (upd H1 tq (.tup [V.ty "tuple", V.ty "list"])) := s1.add htq
      generalize upd H1 tq (.tup [V.ty "tuple", V.ty "list"]) = H2 at s2 ⊢
      have ha2 := s2 _ _ ha
      have hb2 := s2 _ _ hb
      refine iteF ?_
      refine ⟨_, rfl, _, _, _, _, _, rfl, .ty _, .base (.tup ha2), kit_ty (r := false) (by decide +kernel), _, rfl, _, _, _, _, _, rfl, .ty _, .base (.tup hb2), kit_ty (r := false) (by decide +kernel), rfl, _, rfl, ?_⟩
      refine iteF ?_
      refine ⟨_, rfl, a, _, rfl, .inr (SqT.of ha2), _, rfl, b, _, rfl, .inr (SqT.of hb2), rfl, _, rfl, ?_⟩
      rw [hlen, decide_eq_true rfl]
      refine iteF ?_
      refine ⟨_, rfl, b, _, rfl, .inr (SqT.of hb2), _, rfl, by omega, by omega, fun Dl hD => ?_⟩
      refine lc_range (n := ys.length) (fun i H' => Same H2 H' ∧ H' Dl = some (.lst [])) ⟨Same.new hD, upd_same⟩ ?_ ?_
      · rintro i H3 hi ⟨s3, hDl⟩
        obtain ⟨v, hv⟩ : ∃ v, ys[i]? = some v := ⟨_, List.getElem?_eq_getElem hi⟩
        obtain ⟨u, hu⟩ : ∃ u, xs[i]? = some u := ⟨_, List.getElem?_eq_getElem (by omega)⟩
        have e0 : (0 : Int) + ((i : Nat) : Int) = ((i : Nat) : Int) := by omega
        refine ⟨rfl, ?_⟩
        refine ⟨_, rfl, _, rfl, .inr (.inl ⟨a, _, _, _, rfl, rfl, SqT.of (s3 _ _ ha2), (by rw [e0]; exact atI_nat hu), ?_⟩)⟩
        refine ⟨_, rfl, _, rfl, .inr (.inl ⟨b, _, _, _, rfl, rfl, SqT.of (s3 _ _ hb2), (by rw [e0]; exact atI_nat hv), ?_⟩)⟩
        refine ⟨u, v, rfl, (hall i u v hu hv).mono (s2.trans s3), fun H4 s4 => ⟨true, rfl, ?_⟩⟩
        exact iteF ⟨s3.trans s4, s4 _ _ hDl⟩
      · rintro H3 ⟨s3, hDl⟩
        refine ⟨Nat.zero_le _, fun z hz => ?_⟩
        exact ⟨.list [], .list [], .lst (SqL.of (Same.new hz _ _ hDl)) .nil, .lst (SqL.of upd_same) .nil, rfl, rfl, k _ ((s2.trans s3).add hz)⟩
end
end Rs
namespace Rs
open PySem PySem.Spec PyProof.Rows L2 C8
theorem pick5 {d : Int} (h0 : 0 ≤ d) (h1 : d < 5) : ∃ j : Nat, j ≤ 2 ∧ atI ([V.int 0, V.int 1, V.int 1, V.int 1, V.int 2] : List V) d = some (V.int (j : Int)) := by
  have e : d = ((d.toNat : Nat) : Int) := by omega
  have h : d.toNat < 5 := by omega
  rw [e]
  match d.toNat, h with
  | 0, _ => exact ⟨0, by decide, rfl⟩
  | 1, _ => exact ⟨1, by decide, rfl⟩
  | 2, _ => exact ⟨1, by decide, rfl⟩
  | 3, _ => exact ⟨1, by decide, rfl⟩
  | 4, _ => exact ⟨2, by decide, rfl⟩
theorem pick3 (x y z : Int) {d : Int} (h0 : 0 ≤ d) (h1 : d < 3) : ∃ v, (v = x ∨ v = y ∨ v = z) ∧ atI ([V.int x, V.int y, V.int z] : List V) d = some (V.int v) := by
  have e : d = ((d.toNat : Nat) : Int) := by omega
  have h : d.toNat < 3 := by omega
  rw [e]
  match d.toNat, h with
  | 0, _ => exact ⟨x, .inl rfl, rfl⟩
  | 1, _ => exact ⟨y, .inr (.inl rfl), rfl⟩
  | 2, _ => exact ⟨z, .inr (.inr rfl), rfl⟩
theorem pickS {mm : Nat} (h : mm ≤ 2) : atI ([V.int 1, V.int 4, V.int 16] : List V) ((mm : Nat) : Int) = some (V.int (span mm)) := by
  match mm, h with
  | 0, _ => rfl
  | 1, _ => rfl
  | 2, _ => rfl
theorem bytes_snoc {l : List Int} {v : Int} (h : Bytes l) (hv : Byte v) : Bytes (l ++ [v]) := fun x hx => by
  rcases List.mem_append.mp hx with q | q
  · exact h x q
  · rw [List.mem_singleton.mp q]
    exact hv
theorem byte_mod (z : Int) : Byte (z % 256) := by constructor <;> omega
theorem cut_take (ws : List Int) {n : Nat} : cutV (il ws) none (some ((n : Nat) : Int)) = il (ws.take n) := by
  unfold cutV
  rw [HT.sIx_none, List.drop_zero, Nat.sub_zero, HT.sIx_nat, List.length_map, ← List.map_take]
  congr 1
  by_cases h : n ≤ ws.length
  · rw [Nat.min_eq_left h]
  · rw [Nat.min_eq_right (by omega), List.take_of_length_le (Nat.le_refl _), List.take_of_length_le (by omega)]
/-- all but st and f is as it was -/
def Pf (st f : Addr) (H H' : Hp) : Prop := ∀ q o, H q = some o → q ≠ st → q ≠ f → H' q = some o
theorem codes_base : ∀ c ∈ codes, 0 ≤ c.2.1 ∧ c.2.1 + span c.2.2.1 ≤ 144 ∧ c.2.2.1 ≤ 2 ∧ c.2.2.2 ≤ 2 := by decide
section
variable {P : Program} {w : World} {K : PySem.W.Frag} {mg : Str → Option Value} {base : Heap}
def spAny (K : PySem.W.Frag) : Sp := fun vs H Q _ => ∃ (st a : Addr) (ns : List Int), vs = [.ref st] ∧ St3 H st a ∧ Scr K H st a ns ∧
  ∀ (H' : Hp) (p : Addr) (ws : List Int), Pr st H H' → St3 H' st a → H p = none → H' p = some (.lst (il ws)) → ws.length ≤ 256 → Bytes ws → Q (.ref p) H'
theorem ok_any (D : DefAt K mg "_law_any_words" sD__law_any_words) (T : Txt w K mg) (c__law_drawn : Cal P w K mg base 1 "_law_drawn" (spDrawn K) []) (c__law_all_codes : Cal P w K mg base 1 "_law_all_codes" spCodes []) : Cal P w K mg base 2 "_law_any_words" (spAny K) [] := by
  refine cal_of D sc__law_any_words (fun _ _ _ _ _ _ us hl => match us, hl with | [_], _ => rfl) (fun vs H Q E h => ?_) (fun cdv A outer s H vs Q E hr h => ?_)
  · obtain ⟨st, a, ns, rfl, _⟩ := h
    rfl
  · obtain ⟨st, a, ns, rfl, t0, hSc, k⟩ := h
    refine ⟨_, (pss_cons (ps_set (i := 1) sc__law_any_words.nd rfl (Or.inl rfl) (pe_lst (pa_cons (pe_c c__law_drawn hr (by decide) (by rfl) (pa_cons (pv 0) (pa_cons pe_int pa_nil))) (pa_cons (pe_c c__law_drawn hr (by decide) (by rfl) (pa_cons (pv 0) (pa_cons pe_int pa_nil))) (pa_cons (pe_op op_add pe_int (pe_c c__law_drawn hr (by decide) (by rfl) (pa_cons (pv 0) (pa_cons pe_int pa_nil)))) pa_nil)))))
  (pss_cons (ps_set (i := 2) sc__law_any_words.nd rfl (Or.inl rfl) (pe_ix ix_list (pv 1) (pe_ix ix_list (pe_lst (pa_cons pe_int (pa_cons pe_int (pa_cons pe_int (pa_cons pe_int (pa_cons pe_int pa_nil)))))) (pe_c c__law_drawn hr (by decide) (by rfl) (pa_cons (pv 0) (pa_cons pe_int pa_nil))) (fun _ _ => rfl)) (fun _ _ => rfl)))
  (pss_cons (ps_par (i := 3) (j := 4) (by rfl) sc__law_any_words.nd rfl rfl (by decide) rfl rfl (pa_cons (pe_lst pa_nil) (pa_cons (pe_c0 c__law_all_codes hr (by decide) (by rfl)) pa_nil)) (by rfl))
  (pss_cons (ps_while PassesOwn.never (pt_cmpR op_lt (pe_callB call_len_seq (by rfl) T.free_len (by decide +kernel) (pa_cons (pv 3) pa_nil)) (pv 2) (nomark _))
   (pss_cons (ps_set (i := 5) sc__law_any_words.nd rfl (Or.inl rfl) (pe_c c__law_drawn hr (by decide) (by rfl) (pa_cons (pv 0) (pa_cons pe_int pa_nil))))
  (pss_one (ps_if (pt_cmpR op_eq (pv 5) pe_int (nomark _))
   (pss_one (ps_expr (pe_bm PySem.F.plainAttrs_list PySem.F.slot_list_append PySem.F.type_list_append mt_append (pv 3) (pa_cons (pe_c c__law_drawn hr (by decide) (by rfl) (pa_cons (pv 0) (pa_cons pe_int pa_nil))) pa_nil))))
   (pss_one (ps_if (pt_cmpR op_eq (pv 5) pe_int (nomark _))
   (pss_one (ps_expr (pe_bm PySem.F.plainAttrs_list PySem.F.slot_list_append PySem.F.type_list_append mt_append (pv 3) (pa_cons (pe_op op_add pe_int (pe_c c__law_drawn hr (by decide) (by rfl) (pa_cons (pv 0) (pa_cons pe_int pa_nil)))) pa_nil))))
   (pss_cons (ps_asg (pe_ix ix_list (pv 4) (pe_c c__law_drawn hr (by decide) (by rfl) (pa_cons (pv 0) (pa_cons pe_int pa_nil))) (fun _ _ => rfl)) (pg_tup rfl (pgs_cons (pg_name (i := 6) sc__law_any_words.nd rfl (Or.inl rfl)) (pgs_cons (pg_name (i := 7) sc__law_any_words.nd rfl (Or.inl rfl)) (pgs_cons (pg_name (i := 8) sc__law_any_words.nd rfl (Or.inl rfl)) (pgs_cons (pg_name (i := 9) sc__law_any_words.nd rfl (Or.inl rfl)) pgs_nil))))))
  (pss_cons (ps_expr (pe_bm PySem.F.plainAttrs_list PySem.F.slot_list_append PySem.F.type_list_append mt_append (pv 3) (pa_cons (pe_op op_add (pv 7) (pe_c c__law_drawn hr (by decide) (by rfl) (pa_cons (pv 0) (pa_cons (pe_ix ix_list (pe_lst (pa_cons pe_int (pa_cons pe_int (pa_cons pe_int pa_nil)))) (pv 8) (fun _ _ => rfl)) pa_nil)))) pa_nil)))
  (pss_one (ps_for PassesOwn.never rfl (pi_range1 (by rfl) T.free_range (pa_cons (pv 9) pa_nil)) (pg_name (i := 10) sc__law_any_words.nd rfl (Or.inl rfl))
   (pss_cons (ps_set (i := 11) sc__law_any_words.nd rfl (Or.inl rfl) (pe_lst (pa_cons (pe_c c__law_drawn hr (by decide) (by rfl) (pa_cons (pv 0) (pa_cons (pe_op op_add (pv 2) pe_int) pa_nil))) (pa_cons (pe_op op_sub (pe_op op_add (pe_callB call_len_seq (by rfl) T.free_len (by decide +kernel) (pa_cons (pv 3) pa_nil)) (pe_c c__law_drawn hr (by decide) (by rfl) (pa_cons (pv 0) (pa_cons pe_int pa_nil)))) pe_int) (pa_cons (pe_c c__law_drawn hr (by decide) (by rfl) (pa_cons (pv 0) (pa_cons pe_int pa_nil))) pa_nil)))))
  (pss_one (ps_expr (pe_bm PySem.F.plainAttrs_list PySem.F.slot_list_append PySem.F.type_list_append mt_append (pv 3) (pa_cons (pe_op op_mod (pe_ifExp (pt_cmpR op_ne (pv 6) pe_str (nomark _)) (pe_ix ix_list (pv 11) (pe_c c__law_drawn hr (by decide) (by rfl) (pa_cons (pv 0) (pa_cons pe_int pa_nil))) (fun _ _ => rfl)) (pe_op op_sub (pe_c c__law_drawn hr (by decide) (by rfl) (pa_cons (pv 0) (pa_cons pe_int pa_nil))) pe_int)) pe_int) pa_nil)))))))))))))))
  (pss_one (ps_ret (pe_slice sl_list (pv 3) po_none (po_some (pv 2))))))))), ?_⟩
    refine ⟨_, rfl, st, a, _, ns, rfl, by decide, by decide, t0, hSc, fun v1 H1 a1 b1 t1 o1 => ?_⟩
    have p1 : Pr st H H1 := o1.pr
    refine ⟨_, rfl, st, a, _, ns, rfl, by decide, by decide, t1, hSc.pr p1, fun v2 H2 a2 b2 t2 o2 => ?_⟩
    have p2 : Pr st H H2 := p1.trans o2.pr
    refine ⟨_, rfl, st, a, _, ns, rfl, by decide, by decide, t2, hSc.pr p2, fun v3 H3 a3 b3 t3 o3 => ?_⟩
    have p3 : Pr st H H3 := p2.trans o3.pr
    refine ⟨_, _, rfl, rfl, (by show 3 ≤ sizeLine; decide), fun l1 hl1 => ?_⟩
    have p4 : Pr st H (upd H3 l1 (.lst [V.int v1, V.int v2, V.int (200 + v3)])) := p3.add hl1
    have t4 : St3 (upd H3 l1 (.lst [V.int v1, V.int v2, V.int (200 + v3)])) st a := t3.put (t3.ne hl1)
    have e4 : upd H3 l1 (.lst [V.int v1, V.int v2, V.int (200 + v3)]) l1 = some (.lst [V.int v1, V.int v2, V.int (200 + v3)]) := upd_same
    generalize upd H3 l1 (.lst [V.int v1, V.int v2, V.int (200 + v3)]) = H4 at p4 t4 e4 ⊢
    refine ⟨_, rfl, (by show 5 ≤ sizeLine; decide), fun l2 hl2 => ?_⟩
    have p5 : Pr st H (upd H4 l2 (.lst [V.int 0, V.int 1, V.int 1, V.int 1, V.int 2])) := p4.add hl2
    have t5 : St3 (upd H4 l2 (.lst [V.int 0, V.int 1, V.int 1, V.int 1, V.int 2])) st a := t4.put (t4.ne hl2)
    have e5 : upd H4 l2 (.lst [V.int 0, V.int 1, V.int 1, V.int 1, V.int 2]) l2 = some (.lst [V.int 0, V.int 1, V.int 1, V.int 1, V.int 2]) := upd_same
    have e51 := Same.new (o := .lst [V.int 0, V.int 1, V.int 1, V.int 1, V.int 2]) hl2 _ _ e4
    have n2 : l2 ≠ st := (t4.ne hl2).symm
    have n1 : l1 ≠ st := (t3.ne hl1).symm
    generalize upd H4 l2 (.lst [V.int 0, V.int 1, V.int 1, V.int 1, V.int 2]) = H5 at p5 t5 e5 e51 ⊢
    refine ⟨_, rfl, st, a, _, ns, rfl, by decide, by decide, t5, hSc.pr p5, fun d H6 a4 b4 t6 o6 => ?_⟩
    have p6 : Pr st H H6 := p5.trans o6.pr
    obtain ⟨j, hj, ej⟩ := pick5 a4 b4
    obtain ⟨mm, hmm, em⟩ := pick3 v1 v2 (200 + v3) (d := (j : Int)) (by omega) (by omega)
    obtain ⟨many, rfl⟩ : ∃ many : Nat, mm = (many : Int) := ⟨mm.toNat, by omega⟩
    have hmany : many ≤ 256 := by omega
    refine ⟨l2, _, _, _, rfl, rfl, SqL.of ((o6 _ n2).trans e5), ej, l1, _, _, _, rfl, rfl, SqL.of ((o6 _ n1).trans e51), em, ?_⟩
    refine ⟨Nat.zero_le _, fun f hf => ?_⟩
    have p7 : Pr st H (upd H6 f (.lst [])) := p6.add hf
    have t7 : St3 (upd H6 f (.lst [])) st a := t6.put (t6.ne hf)
    have nf : f ≠ st := (t6.ne hf).symm
    have zf : H f = none := by
      cases e : H f with
      | none => rfl
      | some o =>
        have := p6 f o e nf
        rw [hf] at this
        cases this
    have e7 : upd H6 f (.lst []) f = some (.lst (il [])) := upd_same
    generalize upd H6 f (.lst []) = H7 at p7 t7 e7 ⊢
    refine ⟨rfl, fun H8 cl ts s8 z8 hcl hcd => ?_⟩
    have p8 : Pr st H H8 := p7.trans (fun q o e _ => s8 q o e)
    have t8 : St3 H8 st a := t7.same s8
    have e8 : H8 f = some (.lst (il [])) := s8 _ _ e7
    have ncf : cl ≠ f := (ne_of_none e7 z8).symm
    have ncs : cl ≠ st := (t7.ne z8).symm
    have tne : ∀ (i : Nat) (t : Addr) (c : Code), ts[i]? = some t → codes[i]? = some c → t ≠ st ∧ t ≠ f := fun i t c h1 h2 => by
      have := hcd.2 i t c h1 h2
      obtain ⟨i', m', r', et, _⟩ := t8
      exact ⟨ne_of this et (by intro q; cases q), ne_of this e8 (by intro q; cases q)⟩
    refine ⟨_, _, rfl, ?_⟩
    refine ⟨fun n σ' H' => ∃ (fs : List Int) (v1 v5 v6 v7 v8 v9 v10 v11 : Option V), n = many - fs.length ∧ σ' = [some (.ref st), v1, some (.int (many : Nat)), some (.ref f), some (.ref cl), v5, v6, v7, v8, v9, v10, v11] ∧ H' f = some (.lst (il fs)) ∧ Bytes fs ∧ fs.length ≤ 260 ∧
      Pr st H H' ∧ St3 H' st a ∧ Pf st f H8 H', ⟨_, [], _, _, _, _, _, _, _, _, rfl, rfl, e8, (fun x hx => by cases hx), Nat.zero_le _, p8, t8, fun q o e _ _ => e⟩, ?_⟩
    rintro n σ' H' ⟨fs, w1, w5, w6, w7, w8, w9, w10, w11, rfl, rfl, hfs, hby, hfl, pH, tH, pf⟩
    refine ⟨_, rfl, f, _, rfl, .inl (SqL.of hfs), _, rfl, _, _, rfl, rfl, _, rfl, ?_⟩
    rw [List.length_map]
    by_cases hlt : fs.length < many
    · rw [decide_eq_true (show ((fs.length : Nat) : Int) < ((many : Nat) : Int) by omega)]
      refine iteT ⟨fun σ' H' => ∃ (fs2 : List Int) (v1 v5 v6 v7 v8 v9 v10 v11 : Option V), fs.length < fs2.length ∧ σ' = [some (.ref st), v1, some (.int (many : Nat)), some (.ref f), some (.ref cl), v5, v6, v7, v8, v9, v10, v11] ∧ H' f = some (.lst (il fs2)) ∧ Bytes fs2 ∧ fs2.length ≤ 260 ∧
        Pr st H H' ∧ St3 H' st a ∧ Pf st f H8 H', fun σ' H' ⟨fs2, q1, q5, q6, q7, q8, q9, q10, q11, h1, h2⟩ => ⟨_, by omega, fs2, q1, q5, q6, q7, q8, q9, q10, q11, rfl, h2⟩, ?_⟩
      refine ⟨_, rfl, st, a, _, ns, rfl, by decide, by decide, tH, hSc.pr pH, fun way G1 g1 g2 u1 r1 => ?_⟩
      have pG1 : Pr st H G1 := pH.trans r1.pr
      have pf1 : Pf st f H8 G1 := fun q o e n1 n2 => (r1 q n1).trans (pf q o e n1 n2)
      have hf1 : G1 f = some (.lst (il fs)) := (r1 f nf).trans hfs
      have app : ∀ (G : Hp) (gs : List Int) (v : Int), Pr st H G → St3 G st a → Pf st f H8 G → Pr st H (upd G f (.lst (il (gs ++ [v])))) ∧ St3 (upd G f (.lst (il (gs ++ [v])))) st a ∧ Pf st f H8 (upd G f (.lst (il (gs ++ [v])))) := fun G gs v h1 h2 h3 =>
        ⟨h1.put zf, h2.put nf.symm, fun q o e n1 n2 => (upd_ne n2).trans (h3 q o e n1 n2)⟩
      have small : ∀ gs : List Int, gs.length ≤ 262 → (il gs).length < sizeLine := fun gs h => by
        rw [List.length_map]
        exact Nat.lt_of_le_of_lt h (by decide)
      refine ⟨_, rfl, rfl, _, rfl, ?_⟩
      refine ite2 (fun _ => ?_) (fun _ => ?_)
      · refine ⟨_, rfl, .inl ⟨rfl, _, SqL.of hf1⟩, _, rfl, st, a, _, ns, rfl, by decide, by decide, u1, hSc.pr pG1, fun v G2 g3 g4 u2 r2 => ?_⟩
        have hf2 : G2 f = some (.lst (il fs)) := (r2 f nf).trans hf1
        refine ⟨f, _, _, rfl, rfl, hf2, small fs (by omega), ?_⟩
        rw [il_app]
        obtain ⟨x1, x2, x3⟩ := app G2 fs v (pG1.trans r2.pr) u2 (fun q o e n1 n2 => (r2 q n1).trans (pf1 q o e n1 n2))
        exact ⟨fs ++ [v], _, _, _, _, _, _, _, _, by simp, rfl, upd_same, bytes_snoc hby ⟨g3, g4⟩, by simp; omega, x1, x2, x3⟩
      · refine ⟨_, rfl, rfl, _, rfl, ?_⟩
        refine ite2 (fun _ => ?_) (fun _ => ?_)
        · refine ⟨_, rfl, .inl ⟨rfl, _, SqL.of hf1⟩, _, rfl, st, a, _, ns, rfl, by decide, by decide, u1, hSc.pr pG1, fun v G2 g3 g4 u2 r2 => ?_⟩
          have hf2 : G2 f = some (.lst (il fs)) := (r2 f nf).trans hf1
          refine ⟨_, _, rfl, rfl, f, _, _, rfl, rfl, hf2, small fs (by omega), ?_⟩
          rw [il_app]
          obtain ⟨x1, x2, x3⟩ := app G2 fs (144 + v) (pG1.trans r2.pr) u2 (fun q o e n1 n2 => (r2 q n1).trans (pf1 q o e n1 n2))
          exact ⟨fs ++ [144 + v], _, _, _, _, _, _, _, _, by simp, rfl, upd_same, bytes_snoc hby ⟨by omega, by omega⟩, by simp; omega, x1, x2, x3⟩
        · refine ⟨_, rfl, _, rfl, st, a, _, ns, rfl, by decide, by decide, u1, hSc.pr pG1, fun ix G2 g3 g4 u2 r2 => ?_⟩
          have pG2 : Pr st H G2 := pG1.trans r2.pr
          have pf2 : Pf st f H8 G2 := fun q o e n1 n2 => (r2 q n1).trans (pf1 q o e n1 n2)
          have hf2 : G2 f = some (.lst (il fs)) := (r2 f nf).trans hf1
          have hts : ts.length = 15 := hcd.1
          obtain ⟨t, et⟩ : ∃ t, ts[ix.toNat]? = some t := ⟨_, List.getElem?_eq_getElem (by omega)⟩
          obtain ⟨c, ec⟩ : ∃ c, codes[ix.toNat]? = some c := ⟨_, List.getElem?_eq_getElem (by rw [← hcd.1]; omega)⟩
          have cm : c ∈ codes := List.mem_of_getElem? ec
          obtain ⟨cb0, cb1, cb2, cb3⟩ := codes_base c cm
          obtain ⟨nt1, nt2⟩ := tne _ t c et ec
          have htc := pf2 _ _ (hcd.2 _ t c et ec) nt1 nt2
          have eat : atI (ts.map V.ref) ix = some (V.ref t) := by
            have e : ix = ((ix.toNat : Nat) : Int) := by omega
            rw [e]
            refine atI_nat ?_
            rw [List.getElem?_map, et]
            rfl
          refine ⟨cl, _, _, _, rfl, rfl, SqL.of (pf2 _ _ hcl ncs ncf), eat, ?_⟩
          refine ⟨t, _, rfl, SqT.of htc, rfl, _, _, rfl, _, _, rfl, _, _, rfl, _, _, rfl, rfl, ?_⟩
          refine ⟨_, rfl, .inl ⟨rfl, _, SqL.of hf2⟩, _, rfl, _, rfl, (by show 3 ≤ sizeLine; decide), fun l hl => ?_⟩
          have nl1 : l ≠ st := (u2.ne hl).symm
          have sl := Same.new (o := .lst [V.int 1, V.int 4, V.int 16]) hl
          have u3 : St3 (upd G2 l (.lst [V.int 1, V.int 4, V.int 16])) st a := u2.put nl1.symm
          have pG3 : Pr st H (upd G2 l (.lst [V.int 1, V.int 4, V.int 16])) := pG2.add hl
          have sp0 : 0 < span c.2.2.1 ∧ span c.2.2.1 < 1000000 := by
            generalize c.2.2.1 = mm at cb2
            match mm, cb2 with
            | 0, _ => decide
            | 1, _ => decide
            | 2, _ => decide
          refine ⟨_, rfl, l, _, _, _, rfl, rfl, SqL.of upd_same, pickS cb2, st, a, _, ns, rfl, sp0.1, sp0.2, u3, hSc.pr pG3, fun v G4 g5 g6 u4 r4 => ?_⟩
          have pG4 : Pr st H G4 := pG3.trans r4.pr
          have pf4 : Pf st f H8 G4 := fun q o e n1 n2 => (r4 q n1).trans (sl _ _ (pf2 q o e n1 n2))
          have hf4 : G4 f = some (.lst (il fs)) := (r4 f nf).trans (sl _ _ hf2)
          refine ⟨_, _, rfl, rfl, f, _, _, rfl, rfl, hf4, small fs (by omega), ?_⟩
          rw [il_app]
          obtain ⟨x1, x2, x3⟩ := app G4 fs (c.2.1 + v) pG4 u4 pf4
          have hby1 : Bytes (fs ++ [c.2.1 + v]) := bytes_snoc hby ⟨by omega, by omega⟩
          have hf5 : upd G4 f (.lst (il (fs ++ [c.2.1 + v]))) f = some (.lst (il (fs ++ [c.2.1 + v]))) := upd_same
          generalize upd G4 f (.lst (il (fs ++ [c.2.1 + v]))) = G5 at x1 x2 x3 hf5 ⊢
          refine ⟨_, rfl, _, rfl, by omega, by omega, for_range (n := c.2.2.2)
            (fun i σ H' => ∃ (gs : List Int) (w10 w11 : Option V), σ = [some (.ref st), w1, some (.int (many : Nat)), some (.ref f), some (.ref cl), some (.int way), some (.str c.1.str), some (.int c.2.1), some (.int (c.2.2.1 : Nat)), some (.int (c.2.2.2 : Nat)), w10, w11] ∧ H' f = some (.lst (il gs)) ∧ Bytes gs ∧
              gs.length = fs.length + 1 + i ∧ Pr st H H' ∧ St3 H' st a ∧ Pf st f H8 H') ⟨_, _, _, rfl, hf5, hby1, by simp, x1, x2, x3⟩ ?_ ?_⟩
          · rintro i σ K0 hi ⟨gs, y10, y11, rfl, hg, gby, gl, pK, uK, pfK⟩
            refine ⟨_, rfl, _, rfl, _, _, rfl, rfl, st, a, _, ns, rfl, by omega, by omega, uK, hSc.pr pK, fun z1 K1 c1 d1 m1 r1 => ?_⟩
            have pK1 : Pr st H K1 := pK.trans r1.pr
            have pfK1 : Pf st f H8 K1 := fun q o e n1 n2 => (r1 q n1).trans (pfK q o e n1 n2)
            have hg1 : K1 f = some (.lst (il gs)) := (r1 f nf).trans hg
            refine ⟨_, rfl, f, _, rfl, .inl (SqL.of hg1), _, rfl, st, a, _, ns, rfl, by decide, by decide, m1, hSc.pr pK1, fun z2 K2 c2 d2 m2 r2 => ?_⟩
            have pK2 : Pr st H K2 := pK1.trans r2.pr
            have pfK2 : Pf st f H8 K2 := fun q o e n1 n2 => (r2 q n1).trans (pfK1 q o e n1 n2)
            have hg2 : K2 f = some (.lst (il gs)) := (r2 f nf).trans hg1
            refine ⟨_, _, rfl, rfl, _, _, rfl, rfl, ?_⟩
            refine ⟨_, rfl, st, a, _, ns, rfl, by decide, by decide, m2, hSc.pr pK2, fun z3 K3 c3 d3 m3 r3 => ?_⟩
            have pK3 : Pr st H K3 := pK2.trans r3.pr
            have pfK3 : Pf st f H8 K3 := fun q o e n1 n2 => (r3 q n1).trans (pfK2 q o e n1 n2)
            have hg3 : K3 f = some (.lst (il gs)) := (r3 f nf).trans hg2
            refine ⟨(by show 3 ≤ sizeLine; decide), fun nl hnl => ?_⟩
            have nnl : nl ≠ st := (m3.ne hnl).symm
            have pK4 := pK3.add (o := .lst [V.int z1, V.int (((il gs).length : Int) + z2 - 2), V.int z3]) hnl
            have sK4 := Same.new (o := .lst [V.int z1, V.int (((il gs).length : Int) + z2 - 2), V.int z3]) hnl
            have pfK4 : Pf st f H8 (upd K3 nl (.lst [V.int z1, V.int (((il gs).length : Int) + z2 - 2), V.int z3])) := fun q o e n1 n2 => sK4 _ _ (pfK3 q o e n1 n2)
            have hg4 := sK4 _ _ hg3
            have m4 := m3.same sK4
            have hnl4 : upd K3 nl (.lst [V.int z1, V.int (((il gs).length : Int) + z2 - 2), V.int z3]) nl = some (.lst [V.int z1, V.int (((il gs).length : Int) + z2 - 2), V.int z3]) := upd_same
            generalize upd K3 nl (.lst [V.int z1, V.int (((il gs).length : Int) + z2 - 2), V.int z3]) = K4 at pK4 pfK4 hg4 m4 hnl4 ⊢
            refine ⟨_, rfl, .inl ⟨rfl, _, SqL.of hg4⟩, ?_⟩
            refine ⟨_, rfl, rfl, _, rfl, ?_⟩
            refine ite2 (fun _ => ?_) (fun _ => ?_)
            · refine ⟨_, rfl, _, rfl, st, a, _, ns, rfl, by decide, by decide, m4, hSc.pr pK4, fun z4 K5 c5 d5 m5 r5 => ?_⟩
              obtain ⟨zz, _, ezz⟩ := pick3 z1 (((il gs).length : Int) + z2 - 2) z3 c5 d5
              have hg5 : K5 f = some (.lst (il gs)) := (r5 f nf).trans hg4
              refine ⟨nl, _, _, _, rfl, rfl, SqL.of ((r5 nl nnl).trans hnl4), ezz, _, _, rfl, rfl, (by show (0 : Int) < 256; decide), f, _, _, rfl, rfl, hg5, small gs (by omega), ?_⟩
              rw [il_app]
              obtain ⟨x1, x2, x3⟩ := app K5 gs (zz % 256) (pK4.trans r5.pr) m5 (fun q o e n1 n2 => (r5 q n1).trans (pfK4 q o e n1 n2))
              exact ⟨gs ++ [zz % 256], _, _, rfl, upd_same, bytes_snoc gby (byte_mod zz), by simp; omega, x1, x2, x3⟩
            · refine ⟨_, rfl, st, a, _, ns, rfl, by decide, by decide, m4, hSc.pr pK4, fun z4 K5 c5 d5 m5 r5 => ?_⟩
              have hg5 : K5 f = some (.lst (il gs)) := (r5 f nf).trans hg4
              refine ⟨_, _, rfl, rfl, _, _, rfl, rfl, (by show (0 : Int) < 256; decide), f, _, _, rfl, rfl, hg5, small gs (by omega), ?_⟩
              rw [il_app]
              obtain ⟨x1, x2, x3⟩ := app K5 gs ((z4 - 6) % 256) (pK4.trans r5.pr) m5 (fun q o e n1 n2 => (r5 q n1).trans (pfK4 q o e n1 n2))
              exact ⟨gs ++ [(z4 - 6) % 256], _, _, rfl, upd_same, bytes_snoc gby (byte_mod _), by simp; omega, x1, x2, x3⟩
          · rintro σ K0 ⟨gs, y10, y11, rfl, hg, gby, gl, pK, uK, pfK⟩
            exact ⟨gs, _, _, _, _, _, _, _, _, by omega, rfl, hg, gby, by omega, pK, uK, pfK⟩
    · rw [decide_eq_false (show ¬ ((fs.length : Nat) : Int) < ((many : Nat) : Int) by omega)]
      refine iteF ?_
      refine ⟨_, rfl, _, rfl, _, rfl, f, _, rfl, SqL.of hfs, fun p hp => ?_⟩
      rw [cut_take]
      have np : p ≠ st := (tH.ne hp).symm
      have zp : H p = none := by
        cases e : H p with
        | none => rfl
        | some o =>
          have := pH p o e np
          rw [hp] at this
          cases this
      refine k _ p (fs.take many) (pH.add hp) (tH.put np.symm) zp upd_same ?_ (fun x hx => hby x (List.mem_of_mem_take hx))
      rw [List.length_take]
      omega
end
end Rs
namespace Rs
open PySem PySem.Spec PyProof.Rows L2 C8
theorem runW_inv {ws : List Int} {most : Nat} (P : M → Prop) (hs : ∀ m, P m → m.why = "" → m.past.length < most → P (step ws m)) : ∀ (n : Nat) (m : M), mu most m ≤ n → P m → P (runW ws most m)
  | n, m, hn, h => by
    by_cases hc : m.why = "" ∧ m.past.length < most
    · rw [runW_go hc.1 hc.2]
      have := mu_step (ws := ws) hc.1 hc.2
      match n, hn with
      | 0, hn => omega
      | n + 1, hn => exact runW_inv P hs n _ (by omega) (hs m h hc.1 hc.2)
    · rw [runW_end hc]
      exact h
theorem runW_len {ws : List Int} {most : Nat} {be : Int} (hl : ws.length ≤ 256) (hb : Bytes ws) : (runW ws most (init ws be)).says.length ≤ most ∧ (runW ws most (init ws be)).past.length ≤ most := by
  have h := runW_inv (ws := ws) (most := most) (fun m => Good m ∧ m.past.length ≤ most) (fun m ⟨g, h⟩ _ h2 => ⟨step_good hb g, by
    cases e : rowAt ws m.place with
    | none =>
      rw [step_none e]
      exact h
    | some r =>
      rw [step_some e, doK_past]
      simp
      omega⟩) _ (init ws be) (Nat.le_refl _) ⟨init_good hl hb, Nat.zero_le _⟩
  exact ⟨Nat.le_trans h.1.s h.2, h.2⟩
theorem eqn_list {H : Hp} {a b : Addr} {l : List Int} (ha : H a = some (.lst (il l))) (hb : H b = some (.lst (il l))) (hl : l.length ≤ 2000) : EqN 2 H (.ref a) (.ref b) := by
  refine .inr (.inr (.inl ⟨a, b, _, _, rfl, rfl, ha, hb, rfl, by rw [List.length_map]; exact hl, fun i u v h1 h2 => ?_⟩))
  rw [h1] at h2
  cases h2
  obtain ⟨_, e⟩ := ints_get h1
  exact .inl ⟨_, e, e⟩
theorem eqn_tup {H : Hp} {t1 t2 s1 s2 p1 p2 : Addr} {y : Str} {l q : List Int} (h1 : H t1 = some (.tup [.ref s1, .str y, .ref p1])) (h2 : H t2 = some (.tup [.ref s2, .str y, .ref p2])) (a1 : H s1 = some (.lst (il l))) (a2 : H s2 = some (.lst (il l)))
    (b1 : H p1 = some (.lst (il q))) (b2 : H p2 = some (.lst (il q))) (hl : l.length ≤ 2000) (hq : q.length ≤ 2000) : EqN 3 H (.ref t1) (.ref t2) := by
  refine .inr (.inr (.inr ⟨t1, t2, _, _, rfl, rfl, h1, h2, rfl, by show 3 ≤ 2000; decide, fun i u v e1 e2 => ?_⟩))
  match i, e1, e2 with
  | 0, e1, e2 =>
    cases e1
    cases e2
    exact eqn_list a1 a2 hl
  | 1, e1, e2 =>
    cases e1
    cases e2
    exact .inr (.inl ⟨y, rfl, rfl⟩)
  | 2, e1, e2 =>
    cases e1
    cases e2
    exact eqn_list b1 b2 hq
section
variable {P : Program} {w : World} {K : PySem.W.Frag} {mg : Str → Option Value} {base : Heap}
def spLaw (K : PySem.W.Frag) : Sp := fun vs H Q _ => ∃ (a : Addr) (ns : List Int), vs = [.ref a] ∧ SqL K H a (ns.map V.int) ∧ ∀ H', Q (.bl true) H'
theorem ok_law {fd : FuncData} (F : FnP K "law" "law" sD_law (He.ga K "law") fd) (T : Txt w K mg) (c__law_start : Cal P w K mg base 1 "_law_start" (spStart K) []) (c__law_drawn : Cal P w K mg base 1 "_law_drawn" (spDrawn K) []) (c__law_any_words : Cal P w K mg base 2 "_law_any_words" (spAny K) [])
    (c__law_runs : Cal P w K mg base 3 "_law_runs" spRuns []) (c_run : Cal P w K mg base 4 "run" (spRun K) []) (c__law_same : Cal P w K mg base 4 "_law_same" (spSame 3) []) : FnOk P w K mg base L2.CX0 5 (He.ga K "law") fd ["_law_script"] (spLaw K) := by
  refine fnok_of F sc_law (fun vs H Q E h => ?_) (fun cdv A outer s H vs Q E hr h => ?_)
  · obtain ⟨a, ns, rfl, _⟩ := h
    rfl
  · obtain ⟨a, ns, rfl, hS, k⟩ := h
    refine ⟨_, (pss_cons (ps_set (i := 1) sc_law.nd rfl (Or.inl rfl) (pe_c c__law_start hr (by decide) (by rfl) (pa_cons (pv 0) pa_nil)))
  (pss_cons (ps_for PassesOwn.never rfl (pi_range1 (by rfl) T.free_range (pa_cons pe_int pa_nil)) (pg_name (i := 2) sc_law.nd rfl (Or.inl rfl))
   (pss_cons (ps_set (i := 3) sc_law.nd rfl (Or.inl rfl) (pe_c c__law_any_words hr (by decide) (by rfl) (pa_cons (pv 1) pa_nil)))
  (pss_cons (ps_par (i := 4) (j := 5) (by rfl) sc_law.nd rfl rfl (by decide) rfl rfl (pa_cons (pe_op op_mod (pe_c c__law_drawn hr (by decide) (by rfl) (pa_cons (pv 1) (pa_cons (pe_op op_add pe_int (pe_callB call_len_seq (by rfl) T.free_len (by decide +kernel) (pa_cons (pv 3) pa_nil))) pa_nil))) pe_int) (pa_cons (pe_ix ix_list (pe_lst (pa_cons (pe_c c__law_drawn hr (by decide) (by rfl) (pa_cons (pv 1) (pa_cons pe_int pa_nil))) (pa_cons pe_int (pa_cons pe_int pa_nil)))) (pe_c c__law_drawn hr (by decide) (by rfl) (pa_cons (pv 1) (pa_cons pe_int pa_nil))) (fun _ _ => rfl)) pa_nil)) (by rfl))
  (pss_cons (ps_par (i := 6) (j := 7) (by rfl) sc_law.nd rfl rfl (by decide) rfl rfl (pa_cons (pe_c c__law_runs hr (by decide) (by rfl) (pa_cons (pv 3) (pa_cons (pv 4) (pa_cons (pv 5) pa_nil)))) (pa_cons (pe_callTy call_list_of (by rfl) T.free_list (by decide +kernel) (pa_cons (pv 3) pa_nil)) pa_nil)) (by rfl))
  (pss_one (ps_for PassesOwn.never rfl (pi_range1 (by rfl) T.free_range (pa_cons pe_int pa_nil)) (pg_name (i := 8) sc_law.nd rfl (Or.inl rfl))
   (pss_cons (ps_set (i := 9) sc_law.nd rfl (Or.inl rfl) (pe_c c_run hr (by decide) (by rfl) (pa_cons (pv 7) (pa_cons (pv 4) (pa_cons (pv 5) pa_nil)))))
  (pss_cons (ps_if (PW.pt (pw_or (pt_not (pt_val (pe_c c__law_same hr (by decide) (by rfl) (pa_cons (pv 9) (pa_cons (pv 6) pa_nil))))) (pw_or1 (pt_cmpR (op_neD hr.units) (pv 7) (pv 3) (nomark _)))))
   (pss_one (ps_ret pe_bl))
   pss_nil)
  (pss_cons (ps_expr (pe_bm PySem.F.plainAttrs_list PySem.F.slot_list_append PySem.F.type_list_append mt_append (pe_ix ix_tup (pv 9) pe_int (fun _ _ => rfl)) (pa_cons pe_int pa_nil)))
  (pss_one (ps_expr (pe_bm PySem.F.plainAttrs_list PySem.F.slot_list_append PySem.F.type_list_append mt_append (pe_ix ix_tup (pv 9) pe_int (fun _ _ => rfl)) (pa_cons pe_int pa_nil)))))))))))))
  (pss_cons (ps_set (i := 10) sc_law.nd rfl (Or.inl rfl) (pe_op op_add pe_int (pe_c c__law_drawn hr (by decide) (by rfl) (pa_cons (pv 1) (pa_cons pe_int pa_nil)))))
  (pss_cons (ps_set (i := 3) sc_law.nd rfl (Or.inl rfl) (pe_lst pa_nil))
  (pss_cons (ps_for PassesOwn.never rfl (pi_range1 (by rfl) T.free_range (pa_cons (pv 10) pa_nil)) (pg_name (i := 11) sc_law.nd rfl (Or.inl rfl))
   (pss_one (ps_set (i := 3) sc_law.nd rfl (Or.inl rfl) (pe_op op_cat (pv 3) (pe_lst (pa_cons pe_int (pa_cons (pe_op op_add (pe_op op_mul pe_int (pv 11)) pe_int) pa_nil)))))))
  (pss_cons (ps_set (i := 3) sc_law.nd rfl (Or.inl rfl) (pe_op op_cat (pe_op op_cat (pv 3) (pe_lst (pa_cons (pe_op op_add pe_int pe_int) (pa_cons pe_int pa_nil)))) (pe_lst (pa_cons pe_int pa_nil))))
  (pss_one (ps_ret (pe_c c__law_same hr (by decide) (by rfl) (pa_cons (pe_c c_run hr (by decide) (by rfl) (pa_cons (pv 3) (pa_cons pe_int (pa_cons pe_int pa_nil)))) (pa_cons (pe_c c__law_runs hr (by decide) (by rfl) (pa_cons (pv 3) (pa_cons pe_int (pa_cons pe_int pa_nil)))) pa_nil))))))))))), ?_⟩
    refine ⟨_, rfl, a, ns, rfl, hS, fun st mix hst => ?_⟩
    have hSc : Scr K (upd H st (.lst (stt a 0 mix 0))) st a ns := Scr.of hS hst _
    have t0 : St3 (upd H st (.lst (stt a 0 mix 0))) st a := ⟨0, mix, 0, upd_same, by decide⟩
    generalize upd H st (.lst (stt a 0 mix 0)) = H0 at hSc t0 ⊢
    refine ⟨5, rfl, by decide, by decide, for_range (n := 5) (fun i σ H' => ∃ x2 x3 x4 x5 x6 x7 x8 x9 : Option V, σ = [some (.ref a), some (.ref st), x2, x3, x4, x5, x6, x7, x8, x9, none, none] ∧ Pr st H0 H' ∧ St3 H' st a) ⟨_, _, _, _, _, _, _, _, rfl, Pr.refl _ _, t0⟩ ?_ ?_⟩
    · rintro i σ G0 hi ⟨x2, x3, x4, x5, x6, x7, x8, x9, rfl, p0, u0⟩
      refine ⟨_, rfl, st, a, ns, rfl, u0, hSc.pr p0, fun G1 pw ws p1 u1 zw hw hl hb => ?_⟩
      have q1 : Pr st H0 G1 := p0.trans p1
      have nw : pw ≠ st := (u0.ne zw).symm
      refine ⟨_, rfl, _, rfl, pw, _, rfl, .inl (SqL.of hw), _, _, rfl, rfl, st, a, _, ns, rfl, by omega, by rw [List.length_map]; omega, u1, hSc.pr q1, fun v2 G2 b1 b2 u2 o2 => ?_⟩
      refine ⟨_, _, rfl, rfl, (by show (0 : Int) < 256; decide), ?_⟩
      have q2 := q1.trans o2.pr
      have hw2 := (o2 pw nw).trans hw
      refine ⟨_, rfl, st, a, _, ns, rfl, by decide, by decide, u2, hSc.pr q2, fun v3 G3 b3 b4 u3 o3 => ?_⟩
      have q3 := q2.trans o3.pr
      have hw3 := (o3 pw nw).trans hw2
      refine ⟨(by show 3 ≤ sizeLine; decide), fun l4 hl4 => ?_⟩
      have n4 : l4 ≠ st := (u3.ne hl4).symm
      have q4 := q3.add (o := .lst [V.int v3, V.int 200, V.int 1000]) hl4
      have u4 := u3.put (o := .lst [V.int v3, V.int 200, V.int 1000]) n4.symm
      have hw4 := Same.new (o := .lst [V.int v3, V.int 200, V.int 1000]) hl4 _ _ hw3
      have e4 : upd G3 l4 (.lst [V.int v3, V.int 200, V.int 1000]) l4 = some (.lst [V.int v3, V.int 200, V.int 1000]) := upd_same
      generalize upd G3 l4 (.lst [V.int v3, V.int 200, V.int 1000]) = G4 at q4 u4 hw4 e4 ⊢
      refine ⟨_, rfl, st, a, _, ns, rfl, by decide, by decide, u4, hSc.pr q4, fun v5 G5 b5 b6 u5 o5 => ?_⟩
      have q5 := q4.trans o5.pr
      have hw5 := (o5 pw nw).trans hw4
      obtain ⟨mm, hmm, emm⟩ := pick3 v3 200 1000 b5 b6
      obtain ⟨most, rfl⟩ : ∃ most : Nat, mm = (most : Int) := ⟨mm.toNat, by omega⟩
      have hmost : most ≤ 1000 := by omega
      refine ⟨l4, _, _, _, rfl, rfl, SqL.of ((o5 l4 n4).trans e4), emm, _, _, rfl, ?_⟩
      have be0 : 0 ≤ v2 % 256 ∧ v2 % 256 ≤ 255 := by omega
      obtain ⟨rl1, rl2⟩ := runW_len (most := most) (be := v2 % 256) hl hb
      refine ⟨_, rfl, _, rfl, _, rfl, pw, ws, v2 % 256, most, rfl, hw5, hl, hb, hmost, fun G6 td sd pd s6 ztd zsd zpd nsp htd hsd hpd => ?_⟩
      have hw6 := s6 _ _ hw5
      refine ⟨_, rfl, pw, _, rfl, .inl (SqL.of hw6), fun ph hph => ?_⟩
      have q6 : Pr st H0 (upd G6 ph (.lst (il ws))) := (q5.trans (Same.pr s6 st)).add hph
      have u6 : St3 (upd G6 ph (.lst (il ws))) st a := (u5.same s6).same (Same.new hph)
      have sp := Same.new (o := .lst (il ws)) hph
      have hw7 := sp _ _ hw6
      have htd7 := sp _ _ htd
      have hsd7 := sp _ _ hsd
      have hpd7 := sp _ _ hpd
      have hh7 : upd G6 ph (.lst (il ws)) ph = some (.lst (il ws)) := upd_same
      generalize upd G6 ph (.lst (il ws)) = G7 at q6 u6 hw7 htd7 hsd7 hpd7 hh7 ⊢
      refine ⟨_, _, rfl, ?_⟩
      refine ⟨2, rfl, by decide, by decide, for_range (n := 2) (fun j σ H' => ∃ x8 x9 : Option V, σ = [some (.ref a), some (.ref st), some (.int (0 + (i : Int))), some (.ref pw), some (.int (v2 % 256)), some (.int (most : Nat)), some (.ref td), some (.ref ph), x8, x9, none, none] ∧ Same G7 H') ⟨_, _, rfl, Same.refl _⟩ ?_ ?_⟩
      · rintro j σ J0 hj ⟨x8, x9, rfl, s0⟩
        refine ⟨_, rfl, _, rfl, _, rfl, ph, ws, v2 % 256, most, rfl, s0 _ _ hh7, hl, hb, be0.1, be0.2, hmost, fun J1 t s' p s1 zt zs zp nsp' ht hs hp => ?_⟩
        have s01 := s0.trans s1
        refine ⟨_, rfl, _, rfl, _, _, rfl, eqn_tup ht (s01 _ _ htd7) hs (s01 _ _ hsd7) hp (s01 _ _ hpd7) (by omega) (by omega), fun J2 s2 => ⟨true, rfl, ?_⟩⟩
        refine iteF ?_
        have s02 := s01.trans s2
        refine ⟨_, rfl, _, rfl, .list (dI ws), .list (dI ws), .lst (SqL.of (s02 _ _ hh7)) (dp_all ws), .lst (SqL.of (s02 _ _ hw7)) (dp_all ws), shaped_ints ws, shaped_ints ws, _, rfl, ?_⟩
        have ev : PyData.eqv (.list (dI ws)) (.list (dI ws)) = true := (eqv_ints ws ws).trans (decide_eq_true rfl)
        rw [ev]
        refine iteF ?_
        refine ⟨_, rfl, t, _, _, _, rfl, rfl, SqT.of (s2 _ _ ht), atI_nat (j := 0) rfl, .inl ⟨rfl, _, SqL.of (s2 _ _ hs)⟩, s', _, _, rfl, rfl, s2 _ _ hs, ?_, ?_⟩
        · rw [List.length_map]
          exact Nat.lt_of_le_of_lt (Nat.le_trans rl1 hmost) (by decide)
        have zs0 : J0 s' = none := zs
        have nts : t ≠ s' := ne_of (s2 _ _ ht) (s2 _ _ hs) (by intro q; cases q)
        have nps : p ≠ s' := fun q => nsp' q.symm
        refine ⟨_, rfl, t, _, _, _, rfl, rfl, SqT.of ((upd_ne nts).trans (s2 _ _ ht)), atI_nat (j := 2) rfl, .inl ⟨rfl, _, SqL.of ((upd_ne nps).trans (s2 _ _ hp))⟩, p, _, _, rfl, rfl, (upd_ne nps).trans (s2 _ _ hp), ?_, ?_⟩
        · rw [List.length_map]
          exact Nat.lt_of_le_of_lt (Nat.le_trans rl2 hmost) (by decide)
        exact ⟨_, _, rfl, (s02.putNew (s0.free zs)).putNew (s0.free zp)⟩
      · rintro σ J0 ⟨x8, x9, rfl, s0⟩
        exact ⟨_, _, _, _, _, _, _, _, rfl, q6.trans (Same.pr s0 st), u6.same s0⟩
    · rintro σ G0 ⟨x2, x3, x4, x5, x6, x7, x8, x9, rfl, p0, u0⟩
      refine ⟨_, rfl, st, a, _, ns, rfl, by decide, by decide, u0, hSc.pr p0, fun v G1 b1 b2 u1 o1 => ?_⟩
      refine ⟨_, _, rfl, rfl, ?_⟩
      have hd2 : (14 + v).toNat ≤ 17 := by omega
      refine ⟨Nat.zero_le _, fun pw hpw => ?_⟩
      refine ⟨_, rfl, _, rfl, by omega, by omega, for_range (n := (14 + v).toNat) (fun i σ H' => ∃ (x11 : Option V) (pw : Addr) (ws : List Int), σ = [some (.ref a), some (.ref st), x2, some (.ref pw), x4, x5, x6, x7, x8, x9, some (.int (14 + v)), x11] ∧ H' pw = some (.lst (il ws)) ∧ ws.length = 2 * i ∧ Bytes ws)
        ⟨_, pw, [], rfl, upd_same, rfl, fun x hx => by cases hx⟩ ?_ ?_⟩
      · rintro i σ J0 hi ⟨x11, pw, ws, rfl, hw, hl, hb⟩
        refine ⟨_, rfl, _, rfl, _, _, rfl, rfl, .inl ⟨by decide, by decide⟩, _, _, rfl, rfl, (by show 2 ≤ sizeLine; decide), fun l hl' => ?_⟩
        refine ⟨pw, l, _, _, rfl, rfl, (upd_ne (ne_of_none hw hl')).trans hw, upd_same, ?_, fun p hp => ?_⟩
        · exact Nat.le_trans (show (il ws).length + ([V.int 97, V.int (2 * (0 + (i : Int)) + 2)] : List V).length ≤ 100 by simp; omega) (by decide)
        refine ⟨_, p, ws ++ [97, 2 * (0 + (i : Int)) + 2], rfl, ?_, by simp; omega, fun x hx => ?_⟩
        · rw [upd_same]
          simp [il]
        · rcases List.mem_append.mp hx with q | q
          · exact hb x q
          · have : x = 97 ∨ x = 2 * (0 + (i : Int)) + 2 := by simpa using q
            constructor <;> omega
      · rintro σ J0 ⟨x11, pw, ws, rfl, hw, hl, hb⟩
        refine ⟨_, rfl, ?_⟩
        refine ⟨_, _, rfl, rfl, (by show 2 ≤ sizeLine; decide), fun l hl' => ?_⟩
        refine ⟨pw, l, _, _, rfl, rfl, (upd_ne (ne_of_none hw hl')).trans hw, upd_same, ?_, fun p hp => ?_⟩
        · exact Nat.le_trans (show (il ws).length + ([V.int (144 + 7), V.int 4] : List V).length ≤ 100 by simp; omega) (by decide)
        refine ⟨(by show 1 ≤ sizeLine; decide), fun l2 hl2 => ?_⟩
        refine ⟨p, l2, _, _, rfl, rfl, (upd_ne (ne_of_none upd_same hl2)).trans upd_same, upd_same, ?_, fun p2 hp2 => ?_⟩
        · exact Nat.le_trans (show (il ws ++ [V.int (144 + 7), V.int 4]).length + ([V.int 1] : List V).length ≤ 100 by simp; omega) (by decide)
        have ew : il ws ++ [V.int (144 + 7), V.int 4] ++ [V.int 1] = il (ws ++ [151, 4, 1]) := by simp [il]
        rw [ew]
        have hw2 : ∀ G : Hp, upd G p2 (.lst (il (ws ++ [151, 4, 1]))) p2 = some (.lst (il (ws ++ [151, 4, 1]))) := fun G => upd_same
        have hl2' : (ws ++ [151, 4, 1]).length ≤ 256 := by simp; omega
        have hb2 : Bytes (ws ++ [151, 4, 1]) := fun x hx => by
          rcases List.mem_append.mp hx with q | q
          · exact hb x q
          · have : x = 151 ∨ x = 4 ∨ x = 1 := by simpa using q
            constructor <;> omega
        obtain ⟨rl1, rl2⟩ := runW_len (most := 1000) (be := 0) hl2' hb2
        refine ⟨_, rfl, p2, _, 0, 1000, rfl, upd_same, hl2', hb2, by decide, by decide, by decide, fun J1 t s' p s1 zt zs zp nsp' ht hs hp => ?_⟩
        have hw3 := s1 _ _ (hw2 _)
        refine ⟨_, rfl, p2, _, 0, 1000, rfl, hw3, hl2', hb2, by decide, fun J2 t2 s2' p2' s2 zt2 zs2 zp2 nsp2 ht2 hs2 hp2' => ?_⟩
        exact ⟨_, _, rfl, eqn_tup (s2 _ _ ht) ht2 (s2 _ _ hs) hs2 (s2 _ _ hp) hp2' (by omega) (by omega), fun J3 _ => k _⟩
end
end Rs
namespace Rs
open PySem PySem.Spec PyProof.Rows L2 C8
def kinds : List Kd := [.stop, .back, .say, .take, .takeL, .move, .add, .less, .load, .store, .jump, .call, .skip, .zero, .same, .copy]
def dD (x : Str) (st : Stmt) : He.DefD := ⟨(x, none), x, x, defArgs st, defBody st, defScope st, [], []⟩
def dInit : He.DefD := ⟨("Machine", some "__init__"), "__init__", "Machine.__init__", defArgs sD_Machineinit, defBody sD_Machineinit, defScope sD_Machineinit, [], []⟩
def fn1 : List He.DefD := [dD "is_whole" sD_is_whole, dD "check_words" sD_check_words, dD "check_begin" sD_check_begin, dD "check_most" sD_check_most, dD "row_size" sD_row_size, dD "signed" sD_signed, dD "op_of" sD_op_of, dD "boxes_of" sD_boxes_of, dD "row_at" sD_row_at, dD "do_stop" sD_do_stop, dD "do_back" sD_do_back, dD "do_say" sD_do_say, dD "do_take" sD_do_take, dD "do_move" sD_do_move, dD "do_add" sD_do_add, dD "do_less" sD_do_less, dD "do_load" sD_do_load, dD "do_store" sD_do_store, dD "do_jump" sD_do_jump, dD "do_call" sD_do_call]
def fn2 : List He.DefD := [dD "do_skip" sD_do_skip, dD "do_zero" sD_do_zero, dD "do_same" sD_do_same, dD "do_copy" sD_do_copy, dD "do_row" sD_do_row, dD "run" sD_run, dD "_law_start" sD__law_start, dD "_law_drawn" sD__law_drawn, dD "_law_same" sD__law_same, dD "_law_all_codes" sD__law_all_codes, dD "_law_read" sD__law_read, dD "_law_any_words" sD__law_any_words, dD "_law_runs" sD__law_runs, dD "law" sD_law, dInit]
def fn : List He.DefD := fn1 ++ fn2
def fa1 : List He.Fa := [.glo "is_whole", .glo "check_words", .glo "check_begin", .glo "check_most", .glo "row_size", .glo "signed", .glo "op_of", .glo "boxes_of", .glo "row_at", .glo "do_stop", .glo "do_back", .glo "do_say", .glo "do_take", .glo "do_move", .glo "do_add", .glo "do_less", .glo "do_load", .glo "do_store", .glo "do_jump", .glo "do_call", .glo "do_skip", .glo "do_zero", .glo "do_same", .glo "do_copy", .glo "do_row", .glo "run", .glo "_law_start", .glo "_law_drawn", .glo "_law_same", .glo "_law_all_codes", .glo "_law_read", .glo "_law_any_words", .glo "_law_runs", .glo "law", .glo "OPS", .glo "SPANS"]
def fa2 : List He.Fa := [.glo "ACTIONS", .glo "Machine", .free "len", .free "isinstance", .free "int", .free "bool", .free "list", .free "tuple", .free "range", .free "enumerate", .int "WORDS_MOST" 256, .int "WORD_MOST" 255, .int "ROWS_DONE_MOST" 1000, .int "TAKE_FIRST" 144, .int "TAKE_SPAN" 32, .int "TAKE_NUMBERS" 8, .int "CELLS" 256, .int "CALLS_MOST" 16, .cls "Machine", .noat "Machine" "words", .noat "Machine" "cells", .noat "Machine" "boxes", .noat "Machine" "calls", .noat "Machine" "says", .noat "Machine" "place", .noat "Machine" "why", .mkr "Machine"]
def fa : List He.Fa := fa1 ++ fa2
def ts : List He.Tab := [(fun K => He.ga K "OPS", codes.map fun c => c.1.str), (fun K => He.ga K "ACTIONS", kinds.map Kd.str)]
def tupA (K : PySem.W.Frag) (a : Addr) (vs : List V) : Bool := match K.lookup a with
  | some ⟨.type c, _, .seq its _, _⟩ => decide (c = "tuple") && (decide (its.size ≤ sizeLine) && He.relAll vs its.toList)
  | _ => false
def opB (K : PySem.W.Frag) (c : Code) : Bool := match PySem.W.nsIn K (He.ga K "OPS") c.1.str with
  | some (some (.ref a)) => tupA K a [.int c.2.1, .int c.2.2.1, .int c.2.2.2]
  | _ => false
def ex (K : PySem.W.Frag) : Bool := (codes.all (opB K)) && (He.tupB K "SPANS" [.int 1, .int 4, .int 16] && He.valsB K (He.ga K "ACTIONS") (kinds.map fun k => (k.str, He.Dv.glo (doName k))))
abbrev R : PySem.W.OpenRow := PySem.W.OpenLaw.row PySem.Challenge.rw_rowscribe_k02_machine_step_by_step
def hk : PySem.W.Hook := He.hookX 5 fa fn ts [] ex
def ob (s : PySem.W.SharedT) : He.AlX := He.obsX 5 fa fn ts [] ex (HandSHeadRun.getT s)
theorem ob_eq (s : PySem.W.SharedT) : ob s = hk.obs s.abs := He.obsX_eq (HandSHeadRun.getT_eq s)
def loose1 : List PySem.Str := ["ScribeError", "BadWords", "BadBegins", "BadCount", "WORDS_MOST", "WORD_MOST", "ROWS_DONE_MOST", "is_whole", "check_words", "check_begin", "check_most", "OPS", "SPANS", "TAKE_FIRST", "TAKE_SPAN", "TAKE_NUMBERS", "row_size", "signed", "op_of", "boxes_of", "row_at", "CELLS", "CALLS_MOST", "Machine", "do_stop", "do_back", "do_say", "do_take", "do_move", "do_add"]
def loose2 : List PySem.Str := ["do_less", "do_load", "do_store", "do_jump", "do_call", "do_skip", "do_zero", "do_same", "do_copy", "ACTIONS", "do_row", "run", "_law_start", "_law_drawn", "_law_same", "_law_all_codes", "_law_forms", "_law_read", "_law_any_words", "_law_runs"]
def loose : List PySem.Str := loose1 ++ loose2
end Rs
namespace Rs
open PySem PySem.Spec PyProof.Rows L2 C8
theorem run_f (w : World) : HandSHeadRun.RunEq R (PySem.W.view R.prog [55]) hk ob 6000 loose (w.withFollow "special-get-raises" false) := by
  intro os
  kernel_rfl
end Rs
namespace Rs
open PySem PySem.Spec PyProof.Rows L2 C8
theorem tupA_ok {K : PySem.W.Frag} {a : Addr} {vs : List V} (h : tupA K a vs = true) (H : Hp) : SqT K H a vs := by
  unfold tupA at h
  split at h
  · rename_i c od its n sl q
    obtain ⟨h1, h2⟩ := He.ba h
    obtain ⟨h3, h4⟩ := He.ba h2
    exact .inr ⟨_, its, n, q, congrArg Value.type (of_decide_eq_true h1), rfl, of_decide_eq_true h3, He.relAll_ok h4⟩
  · cases h
theorem opB_ok {K : PySem.W.Frag} {c : Code} (h : opB K c = true) : ∃ a, PySem.W.nsIn K (He.ga K "OPS") c.1.str = some (some (.ref a)) ∧ ∀ H, SqT K H a [.int c.2.1, .int c.2.2.1, .int c.2.2.2] := by
  unfold opB at h
  split at h
  · rename_i a q
    exact ⟨a, q, fun H => tupA_ok h H⟩
  · cases h
theorem tab_dic {w : World} {K : PySem.W.Frag} (c : He.SaysT fa fn ts w K) (i : Nat) {t : He.Tab} (h : ts[i]? = some t) : He.dicW K (t.1 K) = some (He.keysIn w.params t.2) := by
  have e : ts.map (fun t => He.dicW K (t.1 K)) = ts.map fun t => some (He.keysIn w.params t.2) := congrArg (fun z : He.AlT => z.2) c
  have e2 : (ts.map fun t => He.dicW K (t.1 K))[i]? = (ts.map fun t => some (He.keysIn w.params t.2))[i]? := by rw [e]
  rw [List.getElem?_map, List.getElem?_map, h] at e2
  exact Option.some.inj e2
theorem ktab_of {K : PySem.W.Frag} {w : World} {a : Addr} {ks : List Str} (h : He.dicW K a = some (He.keysIn w.params ks)) : KTab K w a ks := by
  obtain ⟨es, n, D⟩ := He.dicW_ok h
  have h2 : some (es.toList.map He.keyOf) = some (He.keysIn w.params ks) := by
    rw [← h]
    unfold He.dicW
    rw [D.at_]
    have e : (decide (("dict" : String) = "dict") && ((#[] : Array (Option Value)).isEmpty && !(a == sysModules))) = true := by rw [D.low]; decide
    show _ = (match decide (("dict" : String) = "dict") && ((#[] : Array (Option Value)).isEmpty && !(a == sysModules)) with | true => some (es.toList.map He.keyOf) | false => none)
    rw [e]
  have h3 := Option.some.inj h2
  have hl : es.toList.length = ks.length := by
    have := congrArg List.length h3
    simpa [He.keysIn] using this
  refine ⟨es, n, D.at_, D.lit, D.low, by simpa using hl, fun i k hk => ?_⟩
  have e1 : (es.toList.map He.keyOf)[i]? = (He.keysIn w.params ks)[i]? := by rw [h3]
  rw [List.getElem?_map] at e1
  unfold He.keysIn at e1
  rw [List.getElem?_map, hk] at e1
  cases q : es.toList[i]? with
  | none =>
    rw [q] at e1
    cases e1
  | some en =>
    rw [q] at e1
    have e2 : He.keyOf en = some (k, PyData.keyHash w.params k) := Option.some.inj e1
    unfold He.keyOf at e2
    split at e2
    · rename_i x t ex
      have e3 := (Prod.mk.inj (Option.some.inj e2)).1
      refine ⟨en, t, by simpa using q, ?_⟩
      rw [ex, e3]
    · cases e2
theorem kdct_of {K : PySem.W.Frag} {w : World} {a : Addr} {ks : List Str} {x : Str} {v : V} {u : Value} (T : KTab K w a ks) (h : PySem.W.nsIn K a x = some (some u)) (r : RelV v u) : KDct K w a x v := by
  obtain ⟨es, n, e1, e2, _⟩ := T.ex
  exact ⟨es, n, u, e1, e2, h, r⟩
theorem mem_kinds (k : Kd) : k ∈ kinds := by cases k <;> decide
section
variable {w : World} {K : PySem.W.Frag} {h : Heap} {mg : Str → Option Value}
theorem has_fa {f : He.Fa} (c : He.SaysT fa fn ts w K) (i : Nat) (e : fa[i]? = some f) : f.ok K = true := c.d.fact i e
theorem txt_of (X : K.In h) (G : h.Ns mainGlobals mg) (c : He.SaysT fa fn ts w K) (e : ex K = true) : Txt w K mg := by
  obtain ⟨e1, e2⟩ := He.ba e
  obtain ⟨e3, e4⟩ := He.ba e2
  have tb : KTab K w (He.ga K "OPS") (codes.map fun c => c.1.str) := ktab_of (tab_dic c 0 rfl)
  exact {
    free_len := He.free_ok X G (has_fa c 38 rfl)
    free_isinstance := He.free_ok X G (has_fa c 39 rfl)
    free_int := He.free_ok X G (has_fa c 40 rfl)
    free_bool := He.free_ok X G (has_fa c 41 rfl)
    free_list := He.free_ok X G (has_fa c 42 rfl)
    free_tuple := He.free_ok X G (has_fa c 43 rfl)
    free_range := He.free_ok X G (has_fa c 44 rfl)
    free_enumerate := He.free_ok X G (has_fa c 45 rfl)
    g_WORDS_MOST := He.int_ok X G (has_fa c 46 rfl)
    g_WORD_MOST := He.int_ok X G (has_fa c 47 rfl)
    g_ROWS_DONE_MOST := He.int_ok X G (has_fa c 48 rfl)
    g_TAKE_FIRST := He.int_ok X G (has_fa c 49 rfl)
    g_TAKE_SPAN := He.int_ok X G (has_fa c 50 rfl)
    g_TAKE_NUMBERS := He.int_ok X G (has_fa c 51 rfl)
    g_CELLS := He.int_ok X G (has_fa c 52 rfl)
    g_CALLS_MOST := He.int_ok X G (has_fa c 53 rfl)
    g_OPS := He.glo_ok X G (has_fa c 34 rfl)
    g_SPANS := He.glo_ok X G (has_fa c 35 rfl)
    g_ACTIONS := He.glo_ok X G (has_fa c 36 rfl)
    tab := tb
    ops := fun d hd => by
      obtain ⟨a, q1, q2⟩ := opB_ok (List.all_eq_true.mp e1 d hd)
      exact ⟨a, kdct_of tb q1 rfl, q2⟩
    spans := fun H => He.tupB_ok e3 H
  }
theorem acts_of (c : He.SaysT fa fn ts w K) (e : ex K = true) (k : Kd) : KDct K w (He.ga K "ACTIONS") k.str (.ref (He.ga K (doName k))) := by
  obtain ⟨e1, e2⟩ := He.ba e
  obtain ⟨e3, e4⟩ := He.ba e2
  have tb : KTab K w (He.ga K "ACTIONS") (kinds.map Kd.str) := ktab_of (tab_dic c 1 rfl)
  obtain ⟨u, q1, q2⟩ := He.valsB_ok e4 (q := (k.str, He.Dv.glo (doName k))) (List.mem_map.mpr ⟨k, mem_kinds k, rfl⟩)
  exact kdct_of tb q1 q2
theorem txtM_of (c : He.SaysT fa fn ts w K) : TxtM K mg (He.ga K "Machine") :=
  ⟨He.cls_ok (has_fa c 54 rfl), He.noat_ok (has_fa c 55 rfl), He.noat_ok (has_fa c 56 rfl), He.noat_ok (has_fa c 57 rfl), He.noat_ok (has_fa c 58 rfl), He.noat_ok (has_fa c 59 rfl), He.noat_ok (has_fa c 60 rfl), He.noat_ok (has_fa c 61 rfl)⟩
theorem def_of {x : Str} {st : Stmt} (X : K.In h) (G : h.Ns mainGlobals mg) (c : He.SaysT fa fn ts w K) (i j : Nat) (e1 : fn[i]? = some (dD x st)) (e2 : fa[j]? = some (.glo x)) : DefAt K mg x st := by
  obtain ⟨fd, F⟩ := c.d.def_ i e1
  exact ⟨⟨fd, F⟩, He.glo_ok X G (c.d.fact j e2)⟩
theorem law_ok {P : Program} {base : Heap} {fd : FuncData} (F : FnP K "law" "law" sD_law (He.ga K "law") fd) (X : K.In h) (G : h.Ns mainGlobals mg) (c : He.SaysT fa fn ts w K) (e : ex K = true) : FnOk P w K mg base L2.CX0 5 (He.ga K "law") fd ["_law_script"] (spLaw K) := by
  have T := txt_of X G c e
  have M' : TxtM K mg (He.ga K "Machine") := txtM_of c
  have D_is_whole : DefAt K mg "is_whole" sD_is_whole := def_of X G c 0 0 rfl rfl
  have D_check_words : DefAt K mg "check_words" sD_check_words := def_of X G c 1 1 rfl rfl
  have D_check_begin : DefAt K mg "check_begin" sD_check_begin := def_of X G c 2 2 rfl rfl
  have D_check_most : DefAt K mg "check_most" sD_check_most := def_of X G c 3 3 rfl rfl
  have D_row_size : DefAt K mg "row_size" sD_row_size := def_of X G c 4 4 rfl rfl
  have D_signed : DefAt K mg "signed" sD_signed := def_of X G c 5 5 rfl rfl
  have D_op_of : DefAt K mg "op_of" sD_op_of := def_of X G c 6 6 rfl rfl
  have D_boxes_of : DefAt K mg "boxes_of" sD_boxes_of := def_of X G c 7 7 rfl rfl
  have D_row_at : DefAt K mg "row_at" sD_row_at := def_of X G c 8 8 rfl rfl
  have D_do_stop : DefAt K mg "do_stop" sD_do_stop := def_of X G c 9 9 rfl rfl
  have D_do_back : DefAt K mg "do_back" sD_do_back := def_of X G c 10 10 rfl rfl
  have D_do_say : DefAt K mg "do_say" sD_do_say := def_of X G c 11 11 rfl rfl
  have D_do_take : DefAt K mg "do_take" sD_do_take := def_of X G c 12 12 rfl rfl
  have D_do_move : DefAt K mg "do_move" sD_do_move := def_of X G c 13 13 rfl rfl
  have D_do_add : DefAt K mg "do_add" sD_do_add := def_of X G c 14 14 rfl rfl
  have D_do_less : DefAt K mg "do_less" sD_do_less := def_of X G c 15 15 rfl rfl
  have D_do_load : DefAt K mg "do_load" sD_do_load := def_of X G c 16 16 rfl rfl
  have D_do_store : DefAt K mg "do_store" sD_do_store := def_of X G c 17 17 rfl rfl
  have D_do_jump : DefAt K mg "do_jump" sD_do_jump := def_of X G c 18 18 rfl rfl
  have D_do_call : DefAt K mg "do_call" sD_do_call := def_of X G c 19 19 rfl rfl
  have D_do_skip : DefAt K mg "do_skip" sD_do_skip := def_of X G c 20 20 rfl rfl
  have D_do_zero : DefAt K mg "do_zero" sD_do_zero := def_of X G c 21 21 rfl rfl
  have D_do_same : DefAt K mg "do_same" sD_do_same := def_of X G c 22 22 rfl rfl
  have D_do_copy : DefAt K mg "do_copy" sD_do_copy := def_of X G c 23 23 rfl rfl
  have D_do_row : DefAt K mg "do_row" sD_do_row := def_of X G c 24 24 rfl rfl
  have D_run : DefAt K mg "run" sD_run := def_of X G c 25 25 rfl rfl
  have D__law_start : DefAt K mg "_law_start" sD__law_start := def_of X G c 26 26 rfl rfl
  have D__law_drawn : DefAt K mg "_law_drawn" sD__law_drawn := def_of X G c 27 27 rfl rfl
  have D__law_same : DefAt K mg "_law_same" sD__law_same := def_of X G c 28 28 rfl rfl
  have D__law_all_codes : DefAt K mg "_law_all_codes" sD__law_all_codes := def_of X G c 29 29 rfl rfl
  have D__law_read : DefAt K mg "_law_read" sD__law_read := def_of X G c 30 30 rfl rfl
  have D__law_any_words : DefAt K mg "_law_any_words" sD__law_any_words := def_of X G c 31 31 rfl rfl
  have D__law_runs : DefAt K mg "_law_runs" sD__law_runs := def_of X G c 32 32 rfl rfl
  have D_law : DefAt K mg "law" sD_law := def_of X G c 33 33 rfl rfl
  have c_is_whole : Cal P w K mg base 1 "is_whole" spWhole [] := ok_is_whole D_is_whole T
  have c_signed : Cal P w K mg base 1 "signed" spSigned [] := ok_signed D_signed
  have c_row_size : Cal P w K mg base 1 "row_size" spSize [] := ok_row_size D_row_size T
  have c_check_words := ok_check_words D_check_words T c_is_whole
  have c_check_begin := ok_check_begin D_check_begin T c_is_whole
  have c_check_most := ok_check_most D_check_most T c_is_whole
  have c_op_of : Cal P w K mg base 1 "op_of" spOpOf [] := ok_op_of D_op_of T
  have c_boxes_of : Cal P w K mg base 1 "boxes_of" spBoxes [] := ok_boxes_of D_boxes_of T
  have c_row_at := ok_row_at D_row_at T c_op_of c_row_size c_boxes_of
  have up1 : ∀ {a : Addr} {sp : Sp}, CalAt P w K mg base 1 a sp → CalAt P w K mg base 2 a sp := fun q => by
    obtain ⟨fd, ps, F, kp, b⟩ := q.ex
    exact ⟨fd, ps, F.mono (by decide), kp, b⟩
  have CAs : ∀ k : Kd, CalAt P w K mg base 2 (He.ga K (doName k)) (spDo (He.ga K "Machine") k) := by
    intro k
    cases k
    case stop => exact up1 (calAt_of (ok_do_stop D_do_stop T M') D_do_stop.mgx)
    case back => exact up1 (calAt_of (ok_do_back D_do_back T M') D_do_back.mgx)
    case say => exact up1 (calAt_of (ok_do_say D_do_say T M') D_do_say.mgx)
    case takeL => exact up1 (calAt_of (ok_do_take_takeL D_do_take T M') D_do_take.mgx)
    case move => exact up1 (calAt_of (ok_do_move D_do_move T M') D_do_move.mgx)
    case add => exact up1 (calAt_of (ok_do_add D_do_add T M') D_do_add.mgx)
    case less => exact up1 (calAt_of (ok_do_less D_do_less T M') D_do_less.mgx)
    case load => exact up1 (calAt_of (ok_do_load D_do_load T M') D_do_load.mgx)
    case store => exact up1 (calAt_of (ok_do_store D_do_store T M') D_do_store.mgx)
    case jump => exact up1 (calAt_of (ok_do_jump D_do_jump T M') D_do_jump.mgx)
    case call => exact up1 (calAt_of (ok_do_call D_do_call T M') D_do_call.mgx)
    case skip => exact calAt_of (ok_do_skip D_do_skip T M' c_signed) D_do_skip.mgx
    case zero => exact up1 (calAt_of (ok_do_zero D_do_zero T M') D_do_zero.mgx)
    case same => exact up1 (calAt_of (ok_do_same D_do_same T M') D_do_same.mgx)
    case copy => exact up1 (calAt_of (ok_do_copy D_do_copy T M') D_do_copy.mgx)
    case take => exact up1 (calAt_of (ok_do_take_take D_do_take T M') D_do_take.mgx)
  have c_do_row := ok_do_row D_do_row T M' c_row_size (acts_of c e) CAs
  obtain ⟨fdI, FI⟩ := c.d.def_ 34 (d := dInit) rfl
  have GI : FnOk P w K mg base L2.CX0 1 _ fdI ["self", "words", "begin"] (spInit K (He.ga K "Machine")) := ok_init FI T M'
  have bI : Binds K fdI ["self", "words", "begin"] [] := FunD.bindsN FI fun _ _ _ _ _ _ us hl => match us, hl with | [_, _, _], _ => rfl
  have c_Machine : Mak P w K mg base 1 "Machine" (He.ga K "Machine") (spInit K (He.ga K "Machine")) [] := ⟨_, fdI, _, [], He.mkr_ok (has_fa c 62 rfl), GI, He.glo_ok X G (has_fa c 37 rfl), bI, .nil⟩
  have c_run := ok_run D_run T M' c_check_words c_check_begin c_check_most c_Machine c_row_at c_do_row
  have c_start : Cal P w K mg base 1 "_law_start" (spStart K) [] := ok_start D__law_start
  have c_drawn : Cal P w K mg base 1 "_law_drawn" (spDrawn K) [] := ok_drawn D__law_drawn T
  have c_codes : Cal P w K mg base 1 "_law_all_codes" spCodes [] := ok_all_codes D__law_all_codes
  have c_any := ok_any D__law_any_words T c_drawn c_codes
  have c_read := ok_read D__law_read T c_codes
  have c_runs := ok_runs D__law_runs T c_read
  have c_s0 : Cal P w K mg base 1 "_law_same" (spSame 0) [] := ok_same0 D__law_same
  have c_s3 := ok_sameS D__law_same T (ok_sameS D__law_same T (ok_sameS D__law_same T c_s0))
  exact ok_law F T c_start c_drawn c_any c_runs c_run c_s3
theorem facts {P : Program} {f : Addr} (X : K.In h) (G : h.Ns mainGlobals mg) (hfa : mg ("law" : Str) = some (.ref f)) (c : He.SaysT fa fn ts w K) (e : ex K = true) :
    ∃ fd : FuncData, (∀ (s : Shared) (v : Value), BindsTo s fd ⟨[v], []⟩ [("_law_script", v)]) ∧ ∀ base : Heap, K.In base → base.Ns mainGlobals mg → FnOk P w K mg base L2.CX0 5 f fd ["_law_script"] (spLaw K) := by
  obtain ⟨fd, F⟩ := c.d.def_ 33 (d := dD "law" sD_law) rfl
  have q := hfa.symm.trans (He.glo_ok X G (c.d.fact 33 (f := .glo "law") rfl))
  cases q
  have b := FunD.bindsA (ps := ["_law_script"]) F fun _ _ _ _ _ _ us hl => match us, hl with | [_], _ => rfl
  exact ⟨fd, fun s v => b s [v] rfl, fun base _ _ => law_ok F X G c e⟩
end
end Rs
namespace Rs
open PySem PySem.Spec PyProof.Rows L2 C8
theorem run_t (w : World) : HandSHeadRun.RunEq R (PySem.W.view R.prog [55]) hk ob 6000 loose (w.withFollow "special-get-raises" true) := by
  intro os
  kernel_rfl
theorem run_eq (w : World) : HandSHeadRun.RunEq R (PySem.W.view R.prog [55]) hk ob 6000 loose w :=
  PySem.W.byRow2 "special-get-raises" (P := fun w => HandSHeadRun.RunEq R (PySem.W.view R.prog [55]) hk ob 6000 loose w) run_f run_t w
end Rs
open PySem PySem.W PySem.Calls PyProof.Rows
theorem PySem.Challenge.cw_rowscribe_k02_machine_step_by_step_holds : PySem.Challenge.rw_rowscribe_k02_machine_step_by_step.Holds := by
  w_on; o_law
  refine HandSHeadRun.head_any (r := OpenLaw.row PySem.Challenge.rw_rowscribe_k02_machine_step_by_step) (q := view (OpenLaw.row PySem.Challenge.rw_rowscribe_k02_machine_step_by_step).prog [55]) (H := Rs.hk) (ob := Rs.ob) (M := 6000) (loose := Rs.loose) (d := HandSHeadRun.topDef (OpenLaw.row PySem.Challenge.rw_rowscribe_k02_machine_step_by_step).prog 55) (kwd := []) Rs.ob_eq
    (by kernel_rfl) (fun s => by kernel_rfl) Rs.run_eq (by kernel_rfl) (by kernel_rfl) (by kernel_rfl) (by rfl) (by first | assumption | decide +kernel) (by decide +kernel) ⟨rfl, rfl, rfl, rfl, rfl, by decide +kernel⟩ ?hw ?hc
  case hw => w_witness2
  case hc =>
    refine L2.walk_ofE (l := PySem.Challenge.rw_rowscribe_k02_machine_step_by_step) (n := 63) (k := 5) (x := "_law_script") (CX := L2.CX0) rfl (by decide) (by kernel_rfl) ⟨rfl, by decide, by decide⟩ ?F (fun _ _ _ _ z => z)
    intro w mg fa h Y G hmg0
    obtain ⟨K, KX, c⟩ := Y
    have hmg : mg ("law" : PySem.Str) = some (.ref fa) := by
      have e : (HandSHeadRun.topDef (OpenLaw.row PySem.Challenge.rw_rowscribe_k02_machine_step_by_step).prog 55).name = ("law" : PySem.Str) := by kernel_rfl
      rw [← e]
      exact hmg0
    obtain ⟨fd, hb, hF⟩ := Rs.facts (P := (PySem.Challenge.rw_rowscribe_k02_machine_step_by_step).prog) (w := w) KX G hmg c.t c.more
    exact ⟨K, fd, Rs.spLaw K, KX, hb, fun H a ns hl _ hS => ⟨a, ns, rfl, hS, fun _ => rfl⟩, hF⟩
