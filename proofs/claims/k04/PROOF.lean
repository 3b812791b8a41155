import PyProof.Rows.All
import Wide.All
import OpenK.AllK
import Wide.FinOn
import HandS.Text
import HandS.Codes
import HandS.Dict
import HandS.Base
import HandS.Call
import HandS.List
import HandS.Comp
import HandS.Ends
import HandS.Iter
import HandS.More
import HandS.Words
import HandS.Defaults
import HandS.NoneIn
import HandS.HeadHook1
import HandS.HeadHook2
import HandS.AnyAll
import HandS.Lambda
import HandS.EndTab
import HandS.HeadHook4
import HandS.HeadWalk
import HandS.IsInst
import HandS.Style
import HandS.Conv
import HandS.Walk
import KE.Datum
import KE.DatumOrd
import HandS.Remove
import HandS.SortRule
import HandS.SortInts
import KE.KEqDict
import KE.KDictWalk
import KE.KDictCopyH
import KE.KDictPairs
import KE.KDictKeyed
import HandS.DictTup
import HandS.StrMore
import HandS.CallLocal
import PyProof.ListMulRoad
import PyProof.FactsAll.tuple_2
import HandS.TupMul
import HandS.DictComp
import HandS.Star
import HandS.WordsDict
import HandS.Deep
import HandS.Head0
import HandS.Head1
import HandS.Head2
import HandS.HeadEnd
import HandS.HeadHook3
import PySem.Challenge.RW_rowscribe_k04_rows_of_all_sorts
set_option Elab.async false
set_option linter.all false
set_option maxRecDepth 100000
set_option maxHeartbeats 0
/-! The machine as a plain function. -/
namespace Rs
open PySem
inductive Kd where
  | stop | back | say | takeL | move | add | less | load | store | jump | call | skip | zero | same | copy | take
  deriving DecidableEq
def Kd.str : Kd → Str
  | .stop => "stop" | .back => "back" | .say => "say" | .takeL => "take!" | .move => "move" | .add => "add" | .less => "less" | .load => "load" | .store => "store"
  | .jump => "jump" | .call => "call" | .skip => "skip" | .zero => "zero" | .same => "same" | .copy => "copy" | .take => "take"
abbrev Code := Kd × Int × Nat × Nat
def codes : List Code := [(.stop, 0, 0, 0), (.back, 1, 0, 0), (.say, 4, 1, 0), (.takeL, 16, 1, 1), (.move, 32, 2, 0), (.add, 48, 2, 0), (.less, 64, 2, 0), (.load, 80, 1, 1), (.store, 84, 1, 1),
  (.jump, 96, 0, 1), (.call, 97, 0, 1), (.skip, 99, 0, 1), (.zero, 100, 1, 1), (.same, 112, 2, 1), (.copy, 128, 0, 2)]
def span : Nat → Int
  | 0 => 1
  | 1 => 4
  | _ => 16
def findC : List Code → Int → Option Code
  | [], _ => none
  | c :: r, w => if c.2.1 ≤ w ∧ w < c.2.1 + span c.2.2.1 then some c else findC r w
theorem findC_mem {w : Int} {c : Code} : ∀ {l : List Code}, findC l w = some c → c ∈ l ∧ c.2.1 ≤ w ∧ w < c.2.1 + span c.2.2.1
  | [], h => by cases h
  | d :: r, h => by
    unfold findC at h
    by_cases q : d.2.1 ≤ w ∧ w < d.2.1 + span d.2.2.1
    · rw [if_pos q] at h
      cases h
      exact ⟨List.mem_cons_self, q.1, q.2⟩
    · rw [if_neg q] at h
      obtain ⟨a, b⟩ := findC_mem h
      exact ⟨List.mem_cons_of_mem _ a, b⟩
def boxesOf (base : Int) (many : Nat) (w : Int) : List Int := match many with
  | 0 => []
  | 1 => [w - base]
  | _ => [(w - base) / 4, (w - base) % 4]
structure Row where
  k : Kd
  bx : List Int
  nm : List Int
  size : Nat
def rowAt (ws : List Int) (p : Int) : Option Row :=
  if 0 ≤ p ∧ p < (ws.length : Int) then
    if 144 ≤ ws.getD p.toNat 0 ∧ ws.getD p.toNat 0 < 176 then some ⟨.take, [(ws.getD p.toNat 0 - 144) / 8], [(ws.getD p.toNat 0 - 144) % 8], 1⟩
    else match findC codes (ws.getD p.toNat 0) with
      | none => none
      | some c => if p + (1 + c.2.2.2 : Nat) > ws.length then none else some ⟨c.1, boxesOf c.2.1 c.2.2.1 (ws.getD p.toNat 0), (ws.drop (p.toNat + 1)).take c.2.2.2, 1 + c.2.2.2⟩
  else none
structure M where
  cells : List Int
  boxes : List Int
  calls : List Int
  says : List Int
  past : List Int
  place : Int
  why : Str
def doK (k : Kd) (bx nm : List Int) (m : M) : M :=
  let b0 := (bx.getD 0 0).toNat
  let b1 := (bx.getD 1 0).toNat
  let n0 := nm.getD 0 0
  let n1 := nm.getD 1 0
  let x := m.boxes.getD b0 0
  let y := m.boxes.getD b1 0
  match k with
  | .stop => { m with why := "stop" }
  | .back => if m.calls = [] then { m with why := "back" } else { m with place := m.calls.getLastD 0, calls := m.calls.dropLast }
  | .say => { m with says := m.says ++ [x] }
  | .takeL => { m with boxes := m.boxes.set b0 n0 }
  | .take => { m with boxes := m.boxes.set b0 n0 }
  | .move => { m with boxes := m.boxes.set b0 y }
  | .add => { m with boxes := m.boxes.set b0 ((x + y) % 256) }
  | .less => { m with boxes := m.boxes.set b0 ((x - y) % 256) }
  | .load => { m with boxes := m.boxes.set b0 (m.cells.getD n0.toNat 0) }
  | .store => { m with cells := m.cells.set n0.toNat x }
  | .jump => { m with place := n0 }
  | .call => if m.calls.length = 16 then { m with why := "deep" } else { m with calls := m.calls ++ [m.place], place := n0 }
  | .skip => { m with place := m.place + (if n0 < 128 then n0 else n0 - 256) }
  | .zero => if x = 0 then { m with place := n0 } else m
  | .same => if x = y then { m with place := n0 } else m
  | .copy => { m with cells := m.cells.set n1.toNat (m.cells.getD n0.toNat 0) }
def step (ws : List Int) (m : M) : M := match rowAt ws m.place with
  | none => { m with why := if 0 ≤ m.place ∧ m.place < (ws.length : Int) then "none" else "end" }
  | some r => doK r.k r.bx r.nm { m with past := m.past ++ [m.place], place := m.place + r.size }
theorem ne_stop : ¬ (("stop" : Str) = "") := by decide +kernel
theorem ne_back : ¬ (("back" : Str) = "") := by decide +kernel
theorem ne_deep : ¬ (("deep" : Str) = "") := by decide +kernel
theorem ne_none : ¬ (("none" : Str) = "") := by decide +kernel
theorem ne_end : ¬ (("end" : Str) = "") := by decide +kernel
theorem doK_past (k : Kd) (bx nm : List Int) (m : M) : (doK k bx nm m).past = m.past := by
  unfold doK
  cases k <;> dsimp only <;> (try split) <;> rfl
theorem step_none {ws : List Int} {m : M} (h : rowAt ws m.place = none) : step ws m = { m with why := if 0 ≤ m.place ∧ m.place < (ws.length : Int) then "none" else "end" } := by
  unfold step
  rw [h]
theorem step_some {ws : List Int} {m : M} {r : Row} (h : rowAt ws m.place = some r) : step ws m = doK r.k r.bx r.nm { m with past := m.past ++ [m.place], place := m.place + r.size } := by
  unfold step
  rw [h]
def mu (most : Nat) (m : M) : Nat := (most - m.past.length) + (if m.why = "" then 1 else 0)
theorem mu_step {ws : List Int} {most : Nat} {m : M} (h1 : m.why = "") (h2 : m.past.length < most) : mu most (step ws m) < mu most m := by
  unfold mu
  rw [if_pos h1]
  cases e : rowAt ws m.place with
  | none =>
    rw [step_none e]
    dsimp only
    have : ¬ ((if 0 ≤ m.place ∧ m.place < (ws.length : Int) then ("none" : Str) else "end") = "") := by
      split
      · exact ne_none
      · exact ne_end
    rw [if_neg this]
    omega
  | some r =>
    rw [step_some e, doK_past]
    dsimp only
    rw [List.length_append, List.length_singleton]
    split <;> omega
def runW (ws : List Int) (most : Nat) (m : M) : M :=
  if h : m.why = "" ∧ m.past.length < most then runW ws most (step ws m) else m
termination_by mu most m
decreasing_by exact mu_step h.1 h.2
theorem runW_go {ws : List Int} {most : Nat} {m : M} (h1 : m.why = "") (h2 : m.past.length < most) : runW ws most m = runW ws most (step ws m) := by
  rw [runW, dif_pos ⟨h1, h2⟩]
theorem runW_end {ws : List Int} {most : Nat} {m : M} (h : ¬ (m.why = "" ∧ m.past.length < most)) : runW ws most m = m := by
  rw [runW, dif_neg h]
/-- a number that a word may be -/
def Byte (i : Int) : Prop := 0 ≤ i ∧ i < 256
structure Good (m : M) : Prop where
  c : m.cells.length = 256
  b : m.boxes.length = 4
  cv : ∀ x ∈ m.cells, Byte x
  bv : ∀ x ∈ m.boxes, Byte x
  k : m.calls.length ≤ 16
  s : m.says.length ≤ m.past.length
/-- what a row that is read keeps to -/
def nBox : Kd → Nat
  | .stop | .back | .jump | .call | .skip | .copy => 0
  | .say | .takeL | .take | .load | .store | .zero => 1
  | .move | .add | .less | .same => 2
def nNum : Kd → Nat
  | .stop | .back | .say | .move | .add | .less => 0
  | .takeL | .take | .load | .store | .jump | .call | .skip | .zero | .same => 1
  | .copy => 2
def rSize (k : Kd) : Nat := if k = .take then 1 else 1 + nNum k
structure Ok (r : Row) : Prop where
  bl : r.bx.length = nBox r.k
  nl : r.nm.length = nNum r.k
  bv : ∀ x ∈ r.bx, 0 ≤ x ∧ x < 4
  nv : ∀ x ∈ r.nm, Byte x
  sz : r.size = rSize r.k
theorem codes_ok : ∀ c ∈ codes, c.2.2.1 = nBox c.1 ∧ c.2.2.2 = nNum c.1 ∧ c.1 ≠ .take ∧ c.2.2.1 ≤ 2 := by decide
theorem getD_mem {ws : List Int} {i : Nat} (h : i < ws.length) : ws.getD i 0 ∈ ws := by
  rw [List.getD_eq_getElem?_getD, List.getElem?_eq_getElem h]
  exact List.getElem_mem h
theorem byte_getD {ws : List Int} (hw : ∀ x ∈ ws, Byte x) (i : Nat) : Byte (ws.getD i 0) := by
  by_cases h : i < ws.length
  · exact hw _ (getD_mem h)
  · rw [List.getD_eq_getElem?_getD, List.getElem?_eq_none (by omega)]
    exact ⟨by decide, by decide⟩
theorem rowAt_ok {ws : List Int} {p : Int} {r : Row} (hw : ∀ x ∈ ws, Byte x) (h : rowAt ws p = some r) : Ok r := by
  unfold rowAt at h
  by_cases hp : 0 ≤ p ∧ p < (ws.length : Int)
  · rw [if_pos hp] at h
    by_cases ht : 144 ≤ ws.getD p.toNat 0 ∧ ws.getD p.toNat 0 < 176
    · rw [if_pos ht] at h
      cases h
      refine ⟨rfl, rfl, fun x hx => ?_, fun x hx => ?_, rfl⟩
      · have e : x = (ws.getD p.toNat 0 - 144) / 8 := by simpa using hx
        rw [e]
        omega
      · have e : x = (ws.getD p.toNat 0 - 144) % 8 := by simpa using hx
        rw [e]
        constructor <;> omega
    · rw [if_neg ht] at h
      cases e : findC codes (ws.getD p.toNat 0) with
      | none =>
        rw [e] at h
        cases h
      | some c =>
        rw [e] at h
        dsimp only at h
        by_cases hl : p + (1 + c.2.2.2 : Nat) > ws.length
        · rw [if_pos hl] at h
          cases h
        · rw [if_neg hl] at h
          cases h
          obtain ⟨cm, c1, c2⟩ := findC_mem e
          obtain ⟨k1, k2, k3, k4⟩ := codes_ok c cm
          refine ⟨?_, ?_, ?_, fun x hx => ?_, ?_⟩
          · dsimp only
            rw [← k1]
            unfold boxesOf
            generalize hm : c.2.2.1 = mm
            rw [hm] at k4
            match mm, k4 with
            | 0, _ => rfl
            | 1, _ => rfl
            | 2, _ => rfl
          · dsimp only
            rw [List.length_take, List.length_drop, ← k2]
            omega
          · dsimp only
            unfold boxesOf
            generalize hm : c.2.2.1 = mm
            rw [hm] at k4 c2
            intro x hx
            match mm, k4 with
            | 0, _ => cases hx
            | 1, _ =>
              have e : x = ws.getD p.toNat 0 - c.2.1 := by simpa using hx
              have : span 1 = 4 := rfl
              omega
            | 2, _ =>
              have e : x = (ws.getD p.toNat 0 - c.2.1) / 4 ∨ x = (ws.getD p.toNat 0 - c.2.1) % 4 := by simpa using hx
              have : span 2 = 16 := rfl
              omega
          · dsimp only at hx
            exact hw x (List.mem_of_mem_drop (List.mem_of_mem_take hx))
          · dsimp only
            unfold rSize
            rw [if_neg k3, k2]
  · rw [if_neg hp] at h
    cases h
theorem mem_set_byte {l : List Int} {i : Nat} {v : Int} (hl : ∀ x ∈ l, Byte x) (hv : Byte v) : ∀ x ∈ l.set i v, Byte x := fun x hx => by
  rcases List.mem_or_eq_of_mem_set hx with h | h
  · exact hl x h
  · rw [h]; exact hv
theorem doK_good {r : Row} {m : M} (ho : Ok r) (g : Good m) (hs : r.k = .say → m.says.length < m.past.length) : Good (doK r.k r.bx r.nm m) := by
  have by_ := byte_getD g.bv
  have cy := byte_getD g.cv
  have nv : ∀ i, Byte (r.nm.getD i 0) := byte_getD ho.nv
  have m1 : ∀ z : Int, Byte (z % 256) := fun z => by constructor <;> omega
  obtain ⟨k, bx, nm, sz⟩ := r
  unfold doK
  cases k <;> dsimp only
  case stop => exact ⟨g.c, g.b, g.cv, g.bv, g.k, g.s⟩
  case back =>
    split
    · exact ⟨g.c, g.b, g.cv, g.bv, g.k, g.s⟩
    · refine ⟨g.c, g.b, g.cv, g.bv, ?_, g.s⟩
      have := g.k
      simp only [List.length_dropLast]
      omega
  case say =>
    refine ⟨g.c, g.b, g.cv, g.bv, g.k, ?_⟩
    simp only [List.length_append, List.length_singleton]
    exact hs rfl
  case takeL => exact ⟨g.c, by simp [g.b], g.cv, mem_set_byte g.bv (nv 0), g.k, g.s⟩
  case take => exact ⟨g.c, by simp [g.b], g.cv, mem_set_byte g.bv (nv 0), g.k, g.s⟩
  case move => exact ⟨g.c, by simp [g.b], g.cv, mem_set_byte g.bv (by_ _), g.k, g.s⟩
  case add => exact ⟨g.c, by simp [g.b], g.cv, mem_set_byte g.bv (m1 _), g.k, g.s⟩
  case less => exact ⟨g.c, by simp [g.b], g.cv, mem_set_byte g.bv (m1 _), g.k, g.s⟩
  case load => exact ⟨g.c, by simp [g.b], g.cv, mem_set_byte g.bv (cy _), g.k, g.s⟩
  case store => exact ⟨by simp [g.c], g.b, mem_set_byte g.cv (by_ _), g.bv, g.k, g.s⟩
  case jump => exact ⟨g.c, g.b, g.cv, g.bv, g.k, g.s⟩
  case call =>
    split
    · exact ⟨g.c, g.b, g.cv, g.bv, g.k, g.s⟩
    · refine ⟨g.c, g.b, g.cv, g.bv, ?_, g.s⟩
      have := g.k
      simp only [List.length_append, List.length_singleton]
      omega
  case skip => exact ⟨g.c, g.b, g.cv, g.bv, g.k, g.s⟩
  case zero => split <;> exact ⟨g.c, g.b, g.cv, g.bv, g.k, g.s⟩
  case same => split <;> exact ⟨g.c, g.b, g.cv, g.bv, g.k, g.s⟩
  case copy => exact ⟨by simp [g.c], g.b, mem_set_byte g.cv (cy _), g.bv, g.k, g.s⟩
theorem step_good {ws : List Int} {m : M} (hw : ∀ x ∈ ws, Byte x) (g : Good m) : Good (step ws m) := by
  cases e : rowAt ws m.place with
  | none =>
    rw [step_none e]
    exact ⟨g.c, g.b, g.cv, g.bv, g.k, g.s⟩
  | some r =>
    rw [step_some e]
    have gs := g.s
    refine doK_good (rowAt_ok hw e) ⟨g.c, g.b, g.cv, g.bv, g.k, ?_⟩ fun _ => ?_
    · simp only [List.length_append, List.length_singleton]
      omega
    · simp only [List.length_append, List.length_singleton]
      omega
def init (ws : List Int) (begin : Int) : M := ⟨ws ++ List.replicate (256 - ws.length) 0, [0, 0, 0, 0], [], [], [], begin, ""⟩
theorem init_good {ws : List Int} {begin : Int} (hl : ws.length ≤ 256) (hw : ∀ x ∈ ws, Byte x) : Good (init ws begin) := by
  refine ⟨by simp [init]; omega, rfl, fun x hx => ?_, fun x hx => ?_, Nat.zero_le _, Nat.zero_le _⟩
  · rcases List.mem_append.mp hx with h | h
    · exact hw x h
    · rw [(List.mem_replicate.mp h).2]
      exact ⟨by decide, by decide⟩
  · have e : x = 0 := by simpa [init] using hx
    rw [e]
    exact ⟨by decide, by decide⟩
end Rs
/-! The assembler as plain functions: a text's rows as they are read, named, placed, written. An error is (row, why). -/
namespace Rs
open PySem PySem.Spec PyProof.Rows L2
/-! ### names.py -/
/-- whether a sign lies from k to l -/
def between (k l : Str) (c : Nat) : Bool := !decide ([c] < k.cps.toList) && !decide (l.cps.toList < [c])
def isLetters (a : Str) (m : Int) : Bool := decide (1 ≤ (a.length : Int) ∧ (a.length : Int) ≤ m) && a.cps.toList.all (between "a" "z")
def opKeys : List Str := codes.map fun c => c.1.str
def kept : List Str := ["take", "at", "word", "room", "is", "macro", "end", "here"]
def isName (a : Str) : Bool := isLetters a 8 && (!decide (a ∈ opKeys) && !decide (a ∈ kept))
def isOwn (a : Str) : Bool := Txt.startswith a "@" && isLetters (Txt.slice a (some 1) none) 7
def isFigures (a : Str) : Bool := decide (1 ≤ (a.length : Int) ∧ (a.length : Int) ≤ 4) && (!(Txt.startswith a "0" && !decide (a = "0")) && a.cps.toList.all (between "0" "9"))
/-! ### sums.py -/
abbrev Pc := Int × Str
abbrev Pp := Int × Key
/-- (sign, part) of all parts, from where a sum's signs stand -/
def splitGo : List Nat → Int → Str → List Pc → List Pc
  | [], sign, part, acc => acc ++ [(sign, part)]
  | c :: r, sign, part, acc => if c = 43 ∨ c = 45 then splitGo r (if c = 45 then -1 else 1) "" (acc ++ [(sign, part)]) else splitGo r sign (part ++ ⟨#[c]⟩) acc
def splitSum (a : Str) : List Pc := splitGo (Txt.removeprefix a "-").cps.toList (if Txt.startswith a "-" = true then -1 else 1) "" []
def scaled (s : Int) (L : List Pp) : List Pp := L.map fun q => (s * q.1, q.2)
def boxKeys : List Str := ["r0", "r1", "r2", "r3"]
def boxVals : List (Str × Int) := [("r0", 0), ("r1", 1), ("r2", 2), ("r3", 3)]
abbrev Re := Except (Int × Str)
section
variable {α : Type}
def getL (l : List (Str × α)) (a : Str) : Option α := (l.find? fun e => decide (e.1 = a)).map (·.2)
def putL (l : List (Str × α)) (a : Str) (v : α) : List (Str × α) := if (l.any fun e => decide (e.1 = a)) = true then l.map (fun e => if e.1 = a then (e.1, v) else e) else l ++ [(a, v)]
end
/-- a frame: where a row is put in -/
structure Fm where
  row : Int
  reach : Nat
  own : Str
  boxes : List (Str × Int)
  sums : List (Str × List Pp)
def nameM (F : Fm) (a : Str) : Re Str := if isName a = true then .ok a else if F.own ≠ "" ∧ isOwn a = true then .ok (a ++ F.own) else .error (F.row, "form")
def isBoxM (F : Fm) (a : Str) : Bool := decide (a ∈ boxKeys) || (getL F.boxes a).isSome
def boxM (F : Fm) (a : Str) : Re Int := match getL F.boxes a with
  | some n => .ok n
  | none => match getL boxVals a with
    | some n => .ok n
    | none => .error (F.row, "form")
def partM (F : Fm) (a : Str) : Re (List Pp) :=
  if isFigures a = true then .ok [(1, Sum.inl ((PySem.intText? a).getD 0))]
  else if a = ("here" : Str) then .ok [(1, Sum.inr ("here" : Str))]
  else if (getL F.boxes a).isSome = true then .error (F.row, "form")
  else match getL F.sums a with
    | some L => .ok L
    | none => match nameM F a with
      | .ok n => .ok [(1, Sum.inr n)]
      | .error e => .error e
def mapE {α β : Type} (f : α → Re β) : List α → Re (List β)
  | [] => .ok []
  | a :: r => match f a with
    | .error e => .error e
    | .ok b => match mapE f r with
      | .error e => .error e
      | .ok bs => .ok (b :: bs)
def partS (F : Fm) (e : Pc) : Re (List Pp) := match partM F e.2 with
  | .ok L => .ok (scaled e.1 L)
  | .error z => .error z
def sumM (F : Fm) (a : Str) : Re (List Pp) := match mapE (partS F) (splitSum a) with
  | .error e => .error e
  | .ok Ls => if Ls.flatten.length > 24 then .error (F.row, "long") else .ok Ls.flatten
/-! ### reading.py -/
def full (z : Str) : Bool := ((z.length : Int) != 0)
def rowWords (a : Str) : List Str := (Txt.split (Txt.partition a ";").1 " ").filter full
/-- a row as it is put in, and what it comes to -/
structure Rm where
  row : Int
  label : Str
  op : Str
  boxes : List Int
  sums : List (List Pp)
  gives : Str
  amount : Int
  place : Int
  long : Bool
  words : List Int
def Rm.new (row : Int) : Rm := ⟨row, "", "", [], [], "", 0, 0, false, []⟩
def shapeM (o : Str) : Option (Nat × Nat) :=
  if o = ("take" : Str) then some (1, 1) else if o = ("at" : Str) ∨ o = ("room" : Str) then some (0, 1)
  else (codes.find? fun c => decide (c.1.str = o)).map fun c => (c.2.2.1, c.2.2.2)
def shapedM (F : Fm) (R : Rm) (ws : List Str) : Re Rm := match shapeM R.op with
  | none => .error (F.row, "form")
  | some (nb, nn) => if ws.length ≠ nb + nn then .error (F.row, "form") else match mapE (boxM F) (ws.take nb) with
    | .error e => .error e
    | .ok bs => match mapE (sumM F) (ws.drop nb) with
      | .error e => .error e
      | .ok ss => .ok { R with boxes := bs, sums := ss }
def fillM (F : Fm) (R : Rm) (ws : List Str) : Re Rm := match ws with
  | [] => .error (F.row, "none")
  | o :: as =>
    if o = ("word" : Str) then
      if 1 ≤ as.length ∧ as.length ≤ 8 then match mapE (sumM F) as with
        | .error e => .error e
        | .ok ss => .ok { R with op := o, sums := ss }
      else .error (F.row, "form")
    else if o = ("is" : Str) then match as with
      | [a, z] => match nameM F a with
        | .error e => .error e
        | .ok n => match sumM F z with
          | .error e => .error e
          | .ok L => .ok { R with op := o, gives := n, sums := [L] }
      | _ => .error (F.row, "form")
    else shapedM F { R with op := o } as
structure Mac where
  ahead : Nat
  params : List Str
  rows : List (List Str)
structure Rd where
  macros : List (Str × Mac)
  begun : Bool
  head : Int
  calls : Nat
  rows : List Rm
def handM (G : Fm) (F : Fm) (e : Str × Str) : Re Fm :=
  if isBoxM G e.2 = true then match boxM G e.2 with
    | .error e => .error e
    | .ok n => .ok { F with boxes := putL F.boxes e.1 n }
  else match sumM G e.2 with
    | .error e => .error e
    | .ok L => .ok { F with sums := putL F.sums e.1 L }
def foldE {α β : Type} (f : β → α → Re β) : β → List α → Re β
  | b, [] => .ok b
  | b, a :: r => match f b a with
    | .error e => .error e
    | .ok c => foldE f c r
def calledM (rd : Rd) (F : Fm) (ws : List Str) : Re (Rd × List (Fm × List Str)) := match ws with
  | [] => .error (F.row, "none")
  | m :: as => match getL rd.macros m with
    | none => .error (F.row, "none")
    | some mc =>
      if as.length ≠ mc.params.length ∨ F.reach ≤ mc.ahead then .error (F.row, "macro")
      else match foldE (handM F) ⟨F.row, mc.ahead, "#" ++ toString (rd.calls + 1), [], []⟩ (mc.params.zip as) with
        | .error e => .error e
        | .ok I => .ok ({ rd with calls := rd.calls + 1 }, mc.rows.map fun r => (I, r))
def Rd.add (rd : Rd) (R : Rm) : Rd := { rd with rows := rd.rows ++ [R] }
/-- behind the row's own name -/
def restM (rd : Rd) (F : Fm) (R : Rm) (ws : List Str) : Re (Rd × List (Fm × List Str)) := match ws with
  | [] => .ok (rd.add R, [])
  | m :: as => if (getL rd.macros m).isSome = true then calledM (rd.add R) F (m :: as)
    else match fillM F R (m :: as) with
      | .error e => .error e
      | .ok R' => .ok (rd.add R', [])
def putRowM (rd : Rd) (F : Fm) (ws : List Str) : Re (Rd × List (Fm × List Str)) :=
  if rd.rows.length = 400 then .error (F.row, "long")
  else match ws with
    | [] => .error (F.row, "none")
    | a :: r => if Txt.endswith a ":" = true then match nameM F (Txt.slice a none (some (-1))) with
        | .error e => .error e
        | .ok n => restM rd F { Rm.new F.row with label := n } r
      else restM rd F (Rm.new F.row) (a :: r)
def putGo : Nat → Rd → List (Fm × List Str) → Re Rd
  | _, rd, [] => .ok rd
  | 0, _, (F, _) :: _ => .error (F.row, "long")
  | n + 1, rd, (F, ws) :: rest => match putRowM rd F ws with
    | .error e => .error e
    | .ok (rd', more) => putGo n rd' (more ++ rest)
def putInM (rd : Rd) (number : Int) (ws : List Str) : Re Rd := putGo 401 rd [(⟨number, rd.macros.length, "", [], []⟩, ws)]
def isHead (names : List Str) : Bool := match names with
  | [] => false
  | _ :: ps => decide (ps.length ≤ 4) && (decide ps.Nodup && names.all isName)
def beginM (rd : Rd) (number : Int) (names : List Str) : Re Rd :=
  if rd.begun = true ∨ isHead names = false then .error (number, "macro")
  else match names with
    | [] => .error (number, "macro")
    | n :: ps => if (getL rd.macros n).isSome = true ∨ rd.macros.length = 60 then .error (number, "macro")
      else .ok { rd with macros := rd.macros ++ [(n, ⟨rd.macros.length, ps, []⟩)], begun := true, head := number }
/-- a row more of the macro that was begun, the last -/
def growM (ms : List (Str × Mac)) (ws : List Str) : List (Str × Mac) := match ms.getLast? with
  | none => ms
  | some (n, m) => ms.dropLast ++ [(n, { m with rows := m.rows ++ [ws] })]
def readRowM (rd : Rd) (number : Int) (ws : List Str) : Re Rd :=
  if ws.head? = some ("macro" : Str) then beginM rd number ws.tail
  else if ws = [("end" : Str)] then if rd.begun = true then .ok { rd with begun := false } else .error (number, "macro")
  else if rd.begun = true then .ok { rd with macros := growM rd.macros ws }
  else putInM rd number ws
def readGo : List (List Str) → Int → Rd → Re Rd
  | [], _, rd => .ok rd
  | ws :: r, n, rd => if ws = [] then readGo r (n + 1) rd else match readRowM rd n ws with
    | .error e => .error e
    | .ok rd' => readGo r (n + 1) rd'
def linesOf (text : Str) : List (List Str) := (Txt.split text "\n").map rowWords
def Rd.new : Rd := ⟨[], false, 0, 0, []⟩
def readM (lines : List (List Str)) : Re (List Rm) := match readGo lines 0 Rd.new with
  | .error e => .error e
  | .ok rd => if rd.begun = true then .error (rd.head, "macro") else .ok rd.rows
/-! ### naming.py -/
def giveM (row : Int) (given : List Str) (n : Str) : Re (List Str) := if n ∈ given then .error (row, "name") else if n = "" then .ok given else .ok (given ++ [n])
def givenM : List Rm → List Str → Re (List Str)
  | [], g => .ok g
  | R :: r, g => match giveM R.row g R.label with
    | .error e => .error e
    | .ok g1 => match giveM R.row g1 R.gives with
      | .error e => .error e
      | .ok g2 => givenM r g2
def nameOfP (e : Pp) : Option Str := match e.2 with
  | .inr n => some n
  | .inl _ => none
def namesIn (L : List Pp) : List Str := L.filterMap nameOfP
def isKnownM (given : List Str) (L : List Pp) : Bool := (namesIn L).all fun n => decide (n = ("here" : Str)) || decide (n ∈ given)
def isEarlyM (early : List (Str × Int)) (L : List Pp) : Bool := (namesIn L).all fun n => (getL early n).isSome
def wM (m : List (Str × Int)) (here : Int) : Key → Int
  | .inl n => n
  | .inr n => if n = ("here" : Str) then here else (getL m n).getD 0
def worthM (m : List (Str × Int)) (here : Int) (L : List Pp) : Int := L.foldl (fun t e => t + e.1 * wM m here e.2) 0
def Rm.sum0 (R : Rm) : List Pp := R.sums.headD []
def knownM (given : List Str) : List Rm → List (Str × Int) → Re (List Rm)
  | [], _ => .ok []
  | R :: r, early =>
    if R.sums.all (isKnownM given) = false then .error (R.row, "unknown")
    else if R.op = ("at" : Str) ∨ R.op = ("room" : Str) then
      if isEarlyM early R.sum0 = false then .error (R.row, "unknown")
      else match knownM given r early with
        | .error e => .error e
        | .ok rs => .ok ({ R with amount := worthM early 0 R.sum0 } :: rs)
    else match knownM given r (if R.op = ("is" : Str) ∧ isEarlyM early R.sum0 = true then putL early R.gives (worthM early 0 R.sum0) else early) with
      | .error e => .error e
      | .ok rs => .ok (R :: rs)
def hangsM (uns : List Str) (R : Rm) : Bool := (namesIn R.sum0).any fun n => decide (n ∈ uns)
/-- a row and its number among the rows put in -/
abbrev Ri := Rm × Nat
/-- one round over those that wait: (names unsettled, still waiting, settled) -/
def roundM : List Ri → List Str → List Ri → List Nat → List Str × List Ri × List Nat
  | [], uns, still, order => (uns, still, order)
  | R :: r, uns, still, order => if hangsM uns R.1 = true then roundM r uns (still ++ [R]) order else roundM r (uns.filter fun n => decide (n ≠ R.1.gives)) still (order ++ [R.2])
def settledGo : Nat → List Ri → List Str → List Nat → Re (List Nat)
  | _, [], _, order => .ok order
  | 0, R :: _, _, _ => .error (R.1.row, "ring")
  | n + 1, R :: r, uns, order => match roundM (R :: r) uns [] order with
    | (uns', still, order') => if still.length = (R :: r).length then .error ((still.headD R).1.row, "ring") else settledGo n still uns' order'
def isRows (rows : List Rm) : List Ri := rows.zipIdx.filter fun R => decide (R.1.op = ("is" : Str))
def settledM (rows : List Rm) : Re (List Nat) := settledGo (isRows rows).length (isRows rows) ((isRows rows).map (·.1.gives)) []
/-! ### placing.py -/
def sizeOp (o : Str) : Int := if o = ("take" : Str) then 1 else match codes.find? fun c => decide (c.1.str = o) with
  | some c => 1 + (c.2.2.2 : Int)
  | none => 0
def wordless (o : Str) : Bool := decide (o ∈ (["", "is", "at"] : List Str))
def sizeM (R : Rm) : Int :=
  if wordless R.op = true then 0 else if R.op = ("room" : Str) then R.amount else if R.op = ("word" : Str) then R.sums.length
  else if R.op = ("take" : Str) ∧ R.long = true then 2 else sizeOp R.op
def nextM (R : Rm) (place : Int) : Int := if R.op = ("at" : Str) then R.amount else place + sizeM R
def placeM : List Rm → Int → List Rm
  | [], _ => []
  | R :: r, p => { R with place := p } :: placeM r (nextM R p)
def endM : List Rm → Int → Int
  | [], p => p
  | R :: r, p => endM r (nextM R p)
def labelsM : List Rm → List (Str × Int) → List (Str × Int)
  | [], m => m
  | R :: r, m => labelsM r (if R.label = "" then m else putL m R.label R.place)
/-- the is rows in their order, by the places as they are -/
def isWorths (rows : List Rm) : List Nat → List (Str × Int) → List (Str × Int)
  | [], m => m
  | i :: r, m => match rows[i]? with
    | none => isWorths rows r m
    | some R => isWorths rows r (putL m R.gives (worthM m R.place R.sum0))
def worthsM (rows : List Rm) (order : List Nat) : List (Str × Int) := isWorths rows order (labelsM rows [])
def growing (m : List (Str × Int)) (R : Rm) : Bool := decide (R.op = ("take" : Str)) && (!R.long && !decide (0 ≤ worthM m R.place R.sum0 ∧ worthM m R.place R.sum0 ≤ 7))
structure Pg where
  rows : List Rm
  worths : List (Str × Int)
  stop : Int
def grownM (m : List (Str × Int)) (rows : List Rm) : List Rm := rows.map fun R => if growing m R = true then { R with long := true } else R
def settleM : Nat → List Rm → List Nat → Option Pg
  | 0, _, _ => none
  | n + 1, rows, order =>
    if (placeM rows 0).any (growing (worthsM (placeM rows 0) order)) = true then settleM n (grownM (worthsM (placeM rows 0) order) (placeM rows 0)) order
    else some ⟨placeM rows 0, worthsM (placeM rows 0) order, endM rows 0⟩
def roomM : List Rm → Re Unit
  | [] => .ok ()
  | R :: r => if (R.op = ("at" : Str) ∧ ¬ (R.place ≤ R.amount ∧ R.amount ≤ 256)) ∨ sizeM R < 0 ∨ R.place + sizeM R > 256 then .error (R.row, "room") else roomM r
def fitM (R : Rm) (worth : Int) : Re Int :=
  if R.op = ("skip" : Str) then
    if -128 ≤ worth - R.place - sizeM R ∧ worth - R.place - sizeM R ≤ 127 then .ok ((worth - R.place - sizeM R) % 256) else .error (R.row, "value")
  else if (if R.op ∈ (["word", "take", "take!"] : List Str) then -128 else 0) ≤ worth ∧ worth ≤ 255 then .ok (worth % 256) else .error (R.row, "value")
def baseW (o : Str) : Int := match codes.find? fun c => decide (c.1.str = o) with
  | some c => c.2.1
  | none => 0
def firstW (o : Str) (bs : List Int) : Int := baseW o + bs.foldl (fun w b => 4 * w + b) 0
def wordsM (m : List (Str × Int)) (R : Rm) : Re (List Int) :=
  if wordless R.op = true then .ok []
  else if R.op = ("room" : Str) then .ok (List.replicate R.amount.toNat 0)
  else match mapE (fun L => fitM R (worthM m R.place L)) R.sums with
    | .error e => .error e
    | .ok ns => if R.op = ("word" : Str) then .ok ns
      else if R.op = ("take" : Str) ∧ R.long = false then .ok [144 + 8 * R.boxes.headD 0 + ns.headD 0]
      else .ok (firstW (if R.op = ("take" : Str) then "take!" else R.op) R.boxes :: ns)
def wordsR (m : List (Str × Int)) (R : Rm) : Re Rm := match wordsM m R with
  | .error e => .error e
  | .ok ws => .ok { R with words := ws }
def wordsAll (m : List (Str × Int)) (rows : List Rm) : Re (List Rm) := mapE (wordsR m) rows
def pageL (lines : List (List Str)) : Re Pg := match readM lines with
  | .error e => .error e
  | .ok rows0 => match givenM rows0 [] with
    | .error e => .error e
    | .ok given => match knownM given rows0 [] with
      | .error e => .error e
      | .ok rows => match settledM rows with
        | .error e => .error e
        | .ok order => match settleM (rows.length + 1) rows order with
          | none => .error (0, "take")
          | some P => match roomM P.rows with
            | .error e => .error e
            | .ok _ => match wordsAll P.worths P.rows with
              | .error e => .error e
              | .ok rs => .ok { P with rows := rs }
def pageM (text : Str) : Re Pg := pageL (linesOf text)
/-! ### writing.py -/
/-- some words laid at a place -/
def layM (ws : List Int) (R : Rm) : List Int := ws.take R.place.toNat ++ R.words ++ ws.drop (R.place.toNat + R.words.length)
def writtenP (P : Pg) : List Int := P.rows.foldl layM (List.replicate P.stop.toNat 0)
def listedP (P : Pg) : List (Int × Int × List Int) := (P.rows.filter fun R => decide (R.words ≠ [])).map fun R => (R.row, R.place, R.words)
/-- a text ahead of another -/
def strLe (a b : Str × Int) : Bool := !decide (b.1.cps.toList < a.1.cps.toList)
def toldP (P : Pg) : List (Str × Int) := (P.worths.mergeSort strLe).filter fun e => !Txt.startswith e.1 "@"
end Rs
/-! Part 1: the text by places, short words, a walk over a written dict. -/
namespace Rs
open PySem PySem.Spec PyProof.Rows L2
def top (i : Nat) : Stmt := PySem.Challenge.pw_rowscribe_k04_rows_of_all_sorts.main.body.getD i (.Pass ⟨0, 0, 0, 0⟩)
abbrev FnP (K : PySem.W.Frag) (x q : Str) (st : Stmt) (f : Addr) (fd : FuncData) : Prop := FunD K x q (defArgs st) (defBody st) (defScope st) [] [] f fd
/-- a def of the top, as it stands under its name -/
structure DefAt (K : PySem.W.Frag) (mg : Str → Option Value) (x : Str) (st : Stmt) : Prop where
  ex : ∃ fd, FnP K x x st (He.ga K x) fd
  mgx : mg x = some (.ref (He.ga K x))
section
variable {P : Program} {w : World} {K : PySem.W.Frag} {mg : Str → Option Value} {base : Heap}
theorem fnok_of {x q : Str} {st : Stmt} {f : Addr} {fd : FuncData} {N ps : List Str} {k : Nat} {sp : Sp} (F : FnP K x q st f fd) (S : FnScope N ps (defScope st)) (len : ∀ vs H Q E, sp vs H Q E → vs.length = ps.length)
    (hbody : ∀ (cdv : Value) (A : Around) (outer : List Env) (s : Shared) (H : Hp) (vs : List V) (Q : VK) (E : XK), Room k (A.deeper (envOfC q (defScope st) s.heap.objs.size f cdv)) → sp vs H Q E →
      ∃ t, PSs (cxOf CX0 P w K mg base N q (defScope st) f cdv A outer s H E).nox (defBody st) t ∧ t { nx := fun _ H' => Q .non H', rt := Q } (start N vs) H) : FnOk P w K mg base CX0 (k + 1) f fd ps sp := by
  refine FunD.ok F S len fun cdv A outer s H vs Q E hr h => ?_
  obtain ⟨t, h1, h2⟩ := hbody cdv A outer s H vs Q E hr h
  exact ⟨t, h1.nox, h2⟩
theorem cal_of {x : Str} {st : Stmt} {N ps : List Str} {k : Nat} {sp : Sp} (D : DefAt K mg x st) (S : FnScope N ps (defScope st))
    (hb : ∀ (kV doc pm : Value) (an : Option Addr) (cdv ct : Value) (us : List Value), us.length = ps.length → bindArgs (PySem.W.fnOf x x (defArgs st) (defBody st) (defScope st) .none kV doc pm an cdv ct) ⟨us, []⟩ = pure (ps.zip us))
    (len : ∀ vs H Q E, sp vs H Q E → vs.length = ps.length)
    (hbody : ∀ (cdv : Value) (A : Around) (outer : List Env) (s : Shared) (H : Hp) (vs : List V) (Q : VK) (E : XK), Room k (A.deeper (envOfC x (defScope st) s.heap.objs.size (He.ga K x) cdv)) → sp vs H Q E →
      ∃ t, PSs (cxOf CX0 P w K mg base N x (defScope st) (He.ga K x) cdv A outer s H E).nox (defBody st) t ∧ t { nx := fun _ H' => Q .non H', rt := Q } (start N vs) H) : C8.Cal P w K mg base (k + 1) x sp [] := by
  obtain ⟨fd, F⟩ := D.ex
  exact ⟨He.ga K x, fd, ps, [], fnok_of F S len hbody, D.mgx, F.kp, F.bindsN hb, .nil⟩
end
section
variable {X : Cx}
theorem pe_gI {x : Str} {pos : Pos} {i : Int} (hg : Gl X x) (h : ∃ t, X.mg x = some (.int i t)) (hd : (x == ("__debug__" : Str)) = false := by decide) : PE X (.Name x pos) (tC (.int i)) := by
  obtain ⟨t, h⟩ := h
  exact pe_glob hg h ⟨t, rfl⟩ hd
theorem pe_gR {x : Str} {pos : Pos} {a : Addr} (hg : Gl X x) (h : X.mg x = some (.ref a)) (hd : (x == ("__debug__" : Str)) = false := by decide) : PE X (.Name x pos) (tC (.ref a)) := pe_glob hg h rfl hd
end
end Rs
namespace Rs
open PySem PySem.Spec PyProof.Rows L2
/-- a written dict with text keys, these in their order -/
structure KTab (K : PySem.W.Frag) (w : World) (d : Addr) (ks : List Str) : Prop where
  ex : ∃ (es : Array DictEntry) (n : Nat), K.lookup d = some ⟨.type "dict", none, .dict es n, #[]⟩ ∧ PySem.W.KeysLit w.params es.toList ∧ (d == sysModules) = false ∧ es.size = ks.length ∧
    ∀ (i : Nat) (k : Str), ks[i]? = some k → ∃ (en : DictEntry) (t : Tok), es[i]? = some en ∧ en.key = .str k t
def ItkK (ks : List Str) : It := ⟨fun i _ => i < ks.length, fun i H x H' => H' = H ∧ ∃ k, ks[i]? = some k ∧ x = .str k, fun i _ => ks.length ≤ i⟩
section
variable {P : Program} {w : World} {K : PySem.W.Frag} {tg : Expr} {d : Addr}
theorem turn_keysK {ks : List Str} {es : Array DictEntry} {n : Nat} (it : Addr) (hl : K.lookup d = some ⟨.type "dict", none, .dict es n, #[]⟩) (hsz : es.size = ks.length)
    (hk : ∀ (i : Nat) (k : Str), ks[i]? = some k → ∃ (en : DictEntry) (t : Tok), es[i]? = some en ∧ en.key = .str k t) : Turn P w K tg (ItkK ks) [it] it (fun i h => h.IsKeyIter it d i ks.length n) where
  mem := List.mem_singleton.mpr rfl
  obj := fun n hp sti b hm => by
    obtain rfl : b = it := List.mem_singleton.mp hm
    obtain ⟨itO, at1, _, fields⟩ := sti
    refine ⟨itO, at1, fun v absurdCell => ?_⟩
    rw [fields] at absurdCell
    cases absurdCell
  keep := fun n hp hp' sti kept => sti.at fun itO at1 => kept it (List.mem_singleton.mpr rfl) itO at1
  item := by
    intro Y eP eW eK calm n pns sh τ G Er inv fresh sti below
    subst eP eW eK
    obtain ⟨g0, g1, _, g3, g4, g5⟩ := fresh it (List.mem_singleton.mpr rfl)
    have below' : n < ks.length := below
    obtain ⟨key, atKey⟩ : ∃ key, ks[n]? = some key := ⟨ks[n], List.getElem?_eq_getElem below'⟩
    obtain ⟨entry, tok, atEntry, isKey⟩ := hk n key atKey
    refine next_key_item sti (inv.kIn _ _ hl) rfl hsz atEntry fun hp' stn unch => ?_
    have inv' := inv.turned (t' := sh.toks) (h' := hp') (fun b o nb at1 => (unch.2 b nb).trans at1) g0 g1 g3 g4 g5
    obtain ⟨itO, at1, cls1, fields⟩ := id stn
    refine ⟨entry.key, rfl, go_of (s := { sh with heap := hp' }) at1 cls1 fields (by decide) ?_⟩
    exact ⟨.str key, G, inv', ⟨tok, isKey⟩, ⟨rfl, key, atKey, rfl⟩, stn, fun b hm => (fresh b hm).1⟩
  done := by
    intro Y eP eW eK calm n pns sh τ G Er inv fresh sti over
    subst eP eW eK
    obtain ⟨g0, g1, _, g3, g4, g5⟩ := fresh it (List.mem_singleton.mpr rfl)
    have over' : ks.length ≤ n := over
    refine next_key_end (inv.ok.hd calm) sti (inv.kIn _ _ hl) rfl hsz over' fun hp' unch => ?_
    exact ⟨rfl, inv.turned (t' := sh.toks) (fun b o nb at1 => unch b o nb at1) g0 g1 g3 g4 g5⟩
  self := fun _ _ _ _ _ sti wish => wpAny_pyIter_keyiter sti wish
end
def iKeysK (K : PySem.W.Frag) (w : World) (td : TE) : TI := fun σ H R => td σ H fun x H1 => ∃ d ks, x = .ref d ∧ KTab K w d ks ∧ R (ItkK ks) H1
theorem pi_keysK {X : Cx} {tg e : Expr} {td : TE} (he : PE X e td) : PI X tg e (iKeysK X.K X.w td) :=
  ⟨fun pns sh τ G Rest inv wish => by
    refine thn (he.run pns sh τ G _ inv wish) fun val sh1 ⟨x, G1, inv1, relx, d, ks, isD, tab, rest⟩ => ?_
    subst isD
    cases relx
    obtain ⟨es, n, hl, _, low, hsz, hk⟩ := tab.ex
    refine iter_keys low (inv1.kIn _ _ hl) ⟨rfl, rfl, rfl⟩ rfl (pi_one (tk := sh1.toks) inv1 _ (turn_keysK _ hl hsz hk) ⟨_, Heap.get?_push_size _ rfl, rfl, ?_⟩ rest)
    rw [hsz] <;> rfl⟩
theorem for_keysK {ks : List Str} {g : TG} {tb : TS} {D : Ends} {σ : L2.St} {H : Hp} (Pv : Nat → L2.St → Hp → Prop) (h0 : Pv 0 σ H)
    (hs : ∀ i k σ H, ks[i]? = some k → Pv i σ H → g (.str k) σ H fun σ2 H2 => tb { D with nx := Pv (i + 1), ct := Pv (i + 1), bk := D.nx } σ2 H2) (hd : ∀ σ H, Pv ks.length σ H → D.nx σ H) :
    ∃ W : Nat → Nat → L2.St → Hp → Prop, (∃ m, W 0 m σ H) ∧ ∀ i m σ H, W i m σ H →
      ((ItkK ks).stop i H ∧ D.nx σ H) ∨ ((ItkK ks).go i H ∧ ∃ N : L2.St → Hp → Prop, (∀ σ' H', N σ' H' → ∃ m', m' < m ∧ W (i + 1) m' σ' H') ∧ ∀ x H', (ItkK ks).yld i H x H' → g x σ H' fun σ2 H2 => tb { D with nx := N, ct := N, bk := D.nx } σ2 H2) := by
  refine ⟨fun i m σ H => m = ks.length - i ∧ i ≤ ks.length ∧ Pv i σ H, ⟨ks.length, by simp, Nat.zero_le _, h0⟩, ?_⟩
  rintro i m σ H ⟨rfl, hi, p⟩
  by_cases hlt : i < ks.length
  · refine .inr ⟨hlt, Pv (i + 1), fun σ' H' p' => ⟨ks.length - (i + 1), by omega, rfl, hlt, p'⟩, fun x H' y => ?_⟩
    obtain ⟨e, k, hk, ex⟩ := y
    subst e ex
    exact hs i k σ _ hk p
  · have e : i = ks.length := by omega
    subst e
    exact .inl ⟨Nat.le_refl _, hd _ _ p⟩
end Rs
namespace Rs
open PySem PySem.Spec PyProof.Rows L2
abbrev sD_BadRowinit : Stmt := inClass (top 2) 0
abbrev N_BadRowinit : List Str := ["self", "row", "why"]
theorem sc_BadRowinit : FnScope N_BadRowinit ["self", "row", "why"] (defScope sD_BadRowinit) := ⟨rfl, rfl, rfl, by decide +kernel, rfl, by decide +kernel, by decide +kernel⟩
abbrev sD_BadWordsinit : Stmt := inClass (top 3) 0
abbrev N_BadWordsinit : List Str := ["self", "number"]
theorem sc_BadWordsinit : FnScope N_BadWordsinit ["self", "number"] (defScope sD_BadWordsinit) := ⟨rfl, rfl, rfl, by decide +kernel, rfl, by decide +kernel, by decide +kernel⟩
abbrev sD_BadBeginsinit : Stmt := inClass (top 4) 0
abbrev N_BadBeginsinit : List Str := ["self", "number"]
theorem sc_BadBeginsinit : FnScope N_BadBeginsinit ["self", "number"] (defScope sD_BadBeginsinit) := ⟨rfl, rfl, rfl, by decide +kernel, rfl, by decide +kernel, by decide +kernel⟩
abbrev sD_first_word : Stmt := top 11
abbrev N_first_word : List Str := ["op", "boxes", "word", "box"]
theorem sc_first_word : FnScope N_first_word ["op", "boxes"] (defScope sD_first_word) := ⟨rfl, rfl, rfl, by decide +kernel, rfl, by decide +kernel, by decide +kernel⟩
abbrev sD_short_take : Stmt := top 12
abbrev N_short_take : List Str := ["box", "number"]
theorem sc_short_take : FnScope N_short_take ["box", "number"] (defScope sD_short_take) := ⟨rfl, rfl, rfl, by decide +kernel, rfl, by decide +kernel, by decide +kernel⟩
abbrev sD_row_size : Stmt := top 13
abbrev N_row_size : List Str := ["op"]
theorem sc_row_size : FnScope N_row_size ["op"] (defScope sD_row_size) := ⟨rfl, rfl, rfl, by decide +kernel, rfl, by decide +kernel, by decide +kernel⟩
abbrev sD_signed : Stmt := top 14
abbrev N_signed : List Str := ["word"]
theorem sc_signed : FnScope N_signed ["word"] (defScope sD_signed) := ⟨rfl, rfl, rfl, by decide +kernel, rfl, by decide +kernel, by decide +kernel⟩
abbrev sD_op_of : Stmt := top 15
abbrev N_op_of : List Str := ["word", "op", "first", "boxes", "numbers"]
theorem sc_op_of : FnScope N_op_of ["word"] (defScope sD_op_of) := ⟨rfl, rfl, rfl, by decide +kernel, rfl, by decide +kernel, by decide +kernel⟩
abbrev sD_boxes_of : Stmt := top 16
abbrev N_boxes_of : List Str := ["op", "word", "first", "many", "numbers"]
theorem sc_boxes_of : FnScope N_boxes_of ["op", "word"] (defScope sD_boxes_of) := ⟨rfl, rfl, rfl, by decide +kernel, rfl, by decide +kernel, by decide +kernel⟩
abbrev sD_row_at : Stmt := top 17
abbrev N_row_at : List Str := ["words", "place", "word", "op"]
theorem sc_row_at : FnScope N_row_at ["words", "place"] (defScope sD_row_at) := ⟨rfl, rfl, rfl, by decide +kernel, rfl, by decide +kernel, by decide +kernel⟩
abbrev sD_is_letters : Stmt := top 22
abbrev N_is_letters : List Str := ["word", "most"]
theorem sc_is_letters : FnScope N_is_letters ["word", "most"] (defScope sD_is_letters) := ⟨rfl, rfl, rfl, by decide +kernel, rfl, by decide +kernel, by decide +kernel⟩
abbrev sD_is_name : Stmt := top 23
abbrev N_is_name : List Str := ["word"]
theorem sc_is_name : FnScope N_is_name ["word"] (defScope sD_is_name) := ⟨rfl, rfl, rfl, by decide +kernel, rfl, by decide +kernel, by decide +kernel⟩
abbrev sD_is_own_name : Stmt := top 24
abbrev N_is_own_name : List Str := ["word"]
theorem sc_is_own_name : FnScope N_is_own_name ["word"] (defScope sD_is_own_name) := ⟨rfl, rfl, rfl, by decide +kernel, rfl, by decide +kernel, by decide +kernel⟩
abbrev sD_is_figures : Stmt := top 25
abbrev N_is_figures : List Str := ["word"]
theorem sc_is_figures : FnScope N_is_figures ["word"] (defScope sD_is_figures) := ⟨rfl, rfl, rfl, by decide +kernel, rfl, by decide +kernel, by decide +kernel⟩
abbrev sD_Frameinit : Stmt := inClass (top 29) 0
abbrev N_Frameinit : List Str := ["self", "row", "reach", "own"]
theorem sc_Frameinit : FnScope N_Frameinit ["self", "row", "reach", "own"] (defScope sD_Frameinit) := ⟨rfl, rfl, rfl, by decide +kernel, rfl, by decide +kernel, by decide +kernel⟩
abbrev sD_name_of : Stmt := top 30
abbrev N_name_of : List Str := ["word", "frame"]
theorem sc_name_of : FnScope N_name_of ["word", "frame"] (defScope sD_name_of) := ⟨rfl, rfl, rfl, by decide +kernel, rfl, by decide +kernel, by decide +kernel⟩
abbrev sD_is_box : Stmt := top 31
abbrev N_is_box : List Str := ["word", "frame"]
theorem sc_is_box : FnScope N_is_box ["word", "frame"] (defScope sD_is_box) := ⟨rfl, rfl, rfl, by decide +kernel, rfl, by decide +kernel, by decide +kernel⟩
abbrev sD_box_of : Stmt := top 32
abbrev N_box_of : List Str := ["word", "frame"]
theorem sc_box_of : FnScope N_box_of ["word", "frame"] (defScope sD_box_of) := ⟨rfl, rfl, rfl, by decide +kernel, rfl, by decide +kernel, by decide +kernel⟩
abbrev sD_split_sum : Stmt := top 33
abbrev N_split_sum : List Str := ["word", "parts", "sign", "part", "letter"]
theorem sc_split_sum : FnScope N_split_sum ["word"] (defScope sD_split_sum) := ⟨rfl, rfl, rfl, by decide +kernel, rfl, by decide +kernel, by decide +kernel⟩
abbrev sD_part_of : Stmt := top 34
abbrev N_part_of : List Str := ["part", "frame"]
theorem sc_part_of : FnScope N_part_of ["part", "frame"] (defScope sD_part_of) := ⟨rfl, rfl, rfl, by decide +kernel, rfl, by decide +kernel, by decide +kernel⟩
abbrev sD_sum_of : Stmt := top 35
abbrev N_sum_of : List Str := ["word", "frame", "parts", "sign", "written", "inner", "part"]
theorem sc_sum_of : FnScope N_sum_of ["word", "frame"] (defScope sD_sum_of) := ⟨rfl, rfl, rfl, by decide +kernel, rfl, by decide +kernel, by decide +kernel⟩
abbrev sD_worth_of : Stmt := top 36
abbrev N_worth_of : List Str := ["parts", "here", "worths", "total", "sign", "part"]
theorem sc_worth_of : FnScope N_worth_of ["parts", "here", "worths"] (defScope sD_worth_of) := ⟨rfl, rfl, rfl, by decide +kernel, rfl, by decide +kernel, by decide +kernel⟩
abbrev sD_check_given : Stmt := top 38
abbrev N_check_given : List Str := ["rows", "given", "row", "name"]
theorem sc_check_given : FnScope N_check_given ["rows"] (defScope sD_check_given) := ⟨rfl, rfl, rfl, by decide +kernel, rfl, by decide +kernel, by decide +kernel⟩
abbrev sD_names_in : Stmt := top 39
abbrev N_names_in : List Str := ["parts", "sign", "part"]
theorem sc_names_in : FnScope N_names_in ["parts"] (defScope sD_names_in) := ⟨rfl, rfl, rfl, by decide +kernel, rfl, by decide +kernel, by decide +kernel⟩
abbrev sD_is_known : Stmt := top 40
abbrev N_is_known : List Str := ["parts", "given"]
theorem sc_is_known : FnScope N_is_known ["parts", "given"] (defScope sD_is_known) := ⟨rfl, rfl, rfl, by decide +kernel, rfl, by decide +kernel, by decide +kernel⟩
abbrev sD_is_early : Stmt := top 41
abbrev N_is_early : List Str := ["parts", "early"]
theorem sc_is_early : FnScope N_is_early ["parts", "early"] (defScope sD_is_early) := ⟨rfl, rfl, rfl, by decide +kernel, rfl, by decide +kernel, by decide +kernel⟩
abbrev sD_check_known : Stmt := top 42
abbrev N_check_known : List Str := ["rows", "given", "early", "row", "parts"]
theorem sc_check_known : FnScope N_check_known ["rows", "given"] (defScope sD_check_known) := ⟨rfl, rfl, rfl, by decide +kernel, rfl, by decide +kernel, by decide +kernel⟩
abbrev sD_settled_first : Stmt := top 43
abbrev N_settled_first : List Str := ["rows", "waiting", "unsettled", "order", "still", "row"]
theorem sc_settled_first : FnScope N_settled_first ["rows"] (defScope sD_settled_first) := ⟨rfl, rfl, rfl, by decide +kernel, rfl, by decide +kernel, by decide +kernel⟩
abbrev sD_Rowinit : Stmt := inClass (top 50) 0
abbrev N_Rowinit : List Str := ["self", "row"]
theorem sc_Rowinit : FnScope N_Rowinit ["self", "row"] (defScope sD_Rowinit) := ⟨rfl, rfl, rfl, by decide +kernel, rfl, by decide +kernel, by decide +kernel⟩
abbrev sD_Macroinit : Stmt := inClass (top 51) 0
abbrev N_Macroinit : List Str := ["self", "ahead", "params"]
theorem sc_Macroinit : FnScope N_Macroinit ["self", "ahead", "params"] (defScope sD_Macroinit) := ⟨rfl, rfl, rfl, by decide +kernel, rfl, by decide +kernel, by decide +kernel⟩
abbrev sD_Readerinit : Stmt := inClass (top 52) 0
abbrev N_Readerinit : List Str := ["self"]
theorem sc_Readerinit : FnScope N_Readerinit ["self"] (defScope sD_Readerinit) := ⟨rfl, rfl, rfl, by decide +kernel, rfl, by decide +kernel, by decide +kernel⟩
abbrev sD_split_row : Stmt := top 53
abbrev N_split_row : List Str := ["line", "word"]
theorem sc_split_row : FnScope N_split_row ["line"] (defScope sD_split_row) := ⟨rfl, rfl, rfl, by decide +kernel, rfl, by decide +kernel, by decide +kernel⟩
abbrev sD_is_head : Stmt := top 54
abbrev N_is_head : List Str := ["names", "params"]
theorem sc_is_head : FnScope N_is_head ["names"] (defScope sD_is_head) := ⟨rfl, rfl, rfl, by decide +kernel, rfl, by decide +kernel, by decide +kernel⟩
abbrev sD_begin_macro : Stmt := top 55
abbrev N_begin_macro : List Str := ["reader", "number", "names"]
theorem sc_begin_macro : FnScope N_begin_macro ["reader", "number", "names"] (defScope sD_begin_macro) := ⟨rfl, rfl, rfl, by decide +kernel, rfl, by decide +kernel, by decide +kernel⟩
abbrev sD_end_macro : Stmt := top 56
abbrev N_end_macro : List Str := ["reader", "number"]
theorem sc_end_macro : FnScope N_end_macro ["reader", "number"] (defScope sD_end_macro) := ⟨rfl, rfl, rfl, by decide +kernel, rfl, by decide +kernel, by decide +kernel⟩
abbrev sD_hand : Stmt := top 57
abbrev N_hand : List Str := ["frame", "param", "word", "outer"]
theorem sc_hand : FnScope N_hand ["frame", "param", "word", "outer"] (defScope sD_hand) := ⟨rfl, rfl, rfl, by decide +kernel, rfl, by decide +kernel, by decide +kernel⟩
abbrev sD_called_rows : Stmt := top 58
abbrev N_called_rows : List Str := ["reader", "frame", "words", "macro", "inner", "param", "word", "row"]
theorem sc_called_rows : FnScope N_called_rows ["reader", "frame", "words"] (defScope sD_called_rows) := ⟨rfl, rfl, rfl, by decide +kernel, rfl, by decide +kernel, by decide +kernel⟩
abbrev sD_fill_shaped : Stmt := top 59
abbrev N_fill_shaped : List Str := ["row", "frame", "words", "boxes", "numbers", "first", "word"]
theorem sc_fill_shaped : FnScope N_fill_shaped ["row", "frame", "words"] (defScope sD_fill_shaped) := ⟨rfl, rfl, rfl, by decide +kernel, rfl, by decide +kernel, by decide +kernel⟩
abbrev sD_fill_row : Stmt := top 60
abbrev N_fill_row : List Str := ["row", "frame", "words", "word"]
theorem sc_fill_row : FnScope N_fill_row ["row", "frame", "words"] (defScope sD_fill_row) := ⟨rfl, rfl, rfl, by decide +kernel, rfl, by decide +kernel, by decide +kernel⟩
abbrev sD_put_row : Stmt := top 61
abbrev N_put_row : List Str := ["reader", "frame", "words", "row", "rest"]
theorem sc_put_row : FnScope N_put_row ["reader", "frame", "words"] (defScope sD_put_row) := ⟨rfl, rfl, rfl, by decide +kernel, rfl, by decide +kernel, by decide +kernel⟩
abbrev sD_put_in : Stmt := top 62
abbrev N_put_in : List Str := ["reader", "number", "words", "waiting", "frame", "row"]
theorem sc_put_in : FnScope N_put_in ["reader", "number", "words"] (defScope sD_put_in) := ⟨rfl, rfl, rfl, by decide +kernel, rfl, by decide +kernel, by decide +kernel⟩
abbrev sD_read_row : Stmt := top 63
abbrev N_read_row : List Str := ["reader", "number", "words"]
theorem sc_read_row : FnScope N_read_row ["reader", "number", "words"] (defScope sD_read_row) := ⟨rfl, rfl, rfl, by decide +kernel, rfl, by decide +kernel, by decide +kernel⟩
abbrev sD_read : Stmt := top 64
abbrev N_read : List Str := ["text", "reader", "number", "line", "words"]
theorem sc_read : FnScope N_read ["text"] (defScope sD_read) := ⟨rfl, rfl, rfl, by decide +kernel, rfl, by decide +kernel, by decide +kernel⟩
abbrev sD_Pageinit : Stmt := inClass (top 70) 0
abbrev N_Pageinit : List Str := ["self", "rows", "worths", "end"]
theorem sc_Pageinit : FnScope N_Pageinit ["self", "rows", "worths", "end"] (defScope sD_Pageinit) := ⟨rfl, rfl, rfl, by decide +kernel, rfl, by decide +kernel, by decide +kernel⟩
abbrev sD_size_of : Stmt := top 71
abbrev N_size_of : List Str := ["row"]
theorem sc_size_of : FnScope N_size_of ["row"] (defScope sD_size_of) := ⟨rfl, rfl, rfl, by decide +kernel, rfl, by decide +kernel, by decide +kernel⟩
abbrev sD_set_places : Stmt := top 72
abbrev N_set_places : List Str := ["rows", "place", "row"]
theorem sc_set_places : FnScope N_set_places ["rows"] (defScope sD_set_places) := ⟨rfl, rfl, rfl, by decide +kernel, rfl, by decide +kernel, by decide +kernel⟩
abbrev sD_worths_at : Stmt := top 73
abbrev N_worths_at : List Str := ["rows", "order", "worths", "row"]
theorem sc_worths_at : FnScope N_worths_at ["rows", "order"] (defScope sD_worths_at) := ⟨rfl, rfl, rfl, by decide +kernel, rfl, by decide +kernel, by decide +kernel⟩
abbrev sD_is_growing : Stmt := top 74
abbrev N_is_growing : List Str := ["row", "worths"]
theorem sc_is_growing : FnScope N_is_growing ["row", "worths"] (defScope sD_is_growing) := ⟨rfl, rfl, rfl, by decide +kernel, rfl, by decide +kernel, by decide +kernel⟩
abbrev sD_settle : Stmt := top 75
abbrev N_settle : List Str := ["rows", "order", "end", "worths", "growing", "row"]
theorem sc_settle : FnScope N_settle ["rows", "order"] (defScope sD_settle) := ⟨rfl, rfl, rfl, by decide +kernel, rfl, by decide +kernel, by decide +kernel⟩
abbrev sD_check_room : Stmt := top 76
abbrev N_check_room : List Str := ["rows", "row"]
theorem sc_check_room : FnScope N_check_room ["rows"] (defScope sD_check_room) := ⟨rfl, rfl, rfl, by decide +kernel, rfl, by decide +kernel, by decide +kernel⟩
abbrev sD_fitted : Stmt := top 77
abbrev N_fitted : List Str := ["row", "worth", "least", "most", "number"]
theorem sc_fitted : FnScope N_fitted ["row", "worth"] (defScope sD_fitted) := ⟨rfl, rfl, rfl, by decide +kernel, rfl, by decide +kernel, by decide +kernel⟩
abbrev sD_words_of : Stmt := top 78
abbrev N_words_of : List Str := ["row", "worths", "numbers", "op", "parts"]
theorem sc_words_of : FnScope N_words_of ["row", "worths"] (defScope sD_words_of) := ⟨rfl, rfl, rfl, by decide +kernel, rfl, by decide +kernel, by decide +kernel⟩
abbrev sD_page_of : Stmt := top 79
abbrev N_page_of : List Str := ["text", "rows", "page", "row"]
theorem sc_page_of : FnScope N_page_of ["text"] (defScope sD_page_of) := ⟨rfl, rfl, rfl, by decide +kernel, rfl, by decide +kernel, by decide +kernel⟩
abbrev sD_written : Stmt := top 81
abbrev N_written : List Str := ["text", "page", "words", "row"]
theorem sc_written : FnScope N_written ["text"] (defScope sD_written) := ⟨rfl, rfl, rfl, by decide +kernel, rfl, by decide +kernel, by decide +kernel⟩
abbrev sD_listed : Stmt := top 82
abbrev N_listed : List Str := ["text", "row"]
theorem sc_listed : FnScope N_listed ["text"] (defScope sD_listed) := ⟨rfl, rfl, rfl, by decide +kernel, rfl, by decide +kernel, by decide +kernel⟩
abbrev sD_Walkinit : Stmt := inClass (top 87) 0
abbrev N_Walkinit : List Str := ["self"]
theorem sc_Walkinit : FnScope N_Walkinit ["self"] (defScope sD_Walkinit) := ⟨rfl, rfl, rfl, by decide +kernel, rfl, by decide +kernel, by decide +kernel⟩
abbrev sD_goal_of : Stmt := top 88
abbrev N_goal_of : List Str := ["place", "row", "op", "boxes", "numbers"]
theorem sc_goal_of : FnScope N_goal_of ["place", "row"] (defScope sD_goal_of) := ⟨rfl, rfl, rfl, by decide +kernel, rfl, by decide +kernel, by decide +kernel⟩
abbrev sD_leads_of : Stmt := top 89
abbrev N_leads_of : List Str := ["place", "row", "goal", "leads"]
theorem sc_leads_of : FnScope N_leads_of ["place", "row"] (defScope sD_leads_of) := ⟨rfl, rfl, rfl, by decide +kernel, rfl, by decide +kernel, by decide +kernel⟩
abbrev sD_come : Stmt := top 90
abbrev N_come : List Str := ["walk", "words", "place", "origin", "row", "places", "spot"]
theorem sc_come : FnScope N_come ["walk", "words", "place", "origin"] (defScope sD_come) := ⟨rfl, rfl, rfl, by decide +kernel, rfl, by decide +kernel, by decide +kernel⟩
abbrev sD_walked : Stmt := top 91
abbrev N_walked : List Str := ["words", "begins", "walk", "waiting", "least", "place", "origin", "leads", "begin", "lead"]
theorem sc_walked : FnScope N_walked ["words", "begins"] (defScope sD_walked) := ⟨rfl, rfl, rfl, by decide +kernel, rfl, by decide +kernel, by decide +kernel⟩
abbrev sD_is_whole : Stmt := top 96
abbrev N_is_whole : List Str := ["number", "most"]
theorem sc_is_whole : FnScope N_is_whole ["number", "most"] (defScope sD_is_whole) := ⟨rfl, rfl, rfl, by decide +kernel, rfl, by decide +kernel, by decide +kernel⟩
abbrev sD_check_words : Stmt := top 97
abbrev N_check_words : List Str := ["words", "number", "word"]
theorem sc_check_words : FnScope N_check_words ["words"] (defScope sD_check_words) := ⟨rfl, rfl, rfl, by decide +kernel, rfl, by decide +kernel, by decide +kernel⟩
abbrev sD_check_begins : Stmt := top 98
abbrev N_check_begins : List Str := ["begins", "number", "begin"]
theorem sc_check_begins : FnScope N_check_begins ["begins"] (defScope sD_check_begins) := ⟨rfl, rfl, rfl, by decide +kernel, rfl, by decide +kernel, by decide +kernel⟩
abbrev sD_checked_walk : Stmt := top 100
abbrev N_checked_walk : List Str := ["words", "begins"]
theorem sc_checked_walk : FnScope N_checked_walk ["words", "begins"] (defScope sD_checked_walk) := ⟨rfl, rfl, rfl, by decide +kernel, rfl, by decide +kernel, by decide +kernel⟩
abbrev sD_come_to : Stmt := top 101
abbrev N_come_to : List Str := ["words", "begins", "rows", "place"]
theorem sc_come_to : FnScope N_come_to ["words", "begins"] (defScope sD_come_to) := ⟨rfl, rfl, rfl, by decide +kernel, rfl, by decide +kernel, by decide +kernel⟩
abbrev sD__law_start : Stmt := top 103
abbrev N__law_start : List Str := ["_law_script", "_law_mixed", "_law_cell"]
theorem sc__law_start : FnScope N__law_start ["_law_script"] (defScope sD__law_start) := ⟨rfl, rfl, rfl, by decide +kernel, rfl, by decide +kernel, by decide +kernel⟩
abbrev sD__law_drawn : Stmt := top 104
abbrev N__law_drawn : List Str := ["_law_state", "_law_many", "_law_found", "_law_cell"]
theorem sc__law_drawn : FnScope N__law_drawn ["_law_state", "_law_many"] (defScope sD__law_drawn) := ⟨rfl, rfl, rfl, by decide +kernel, rfl, by decide +kernel, by decide +kernel⟩
abbrev sD__law_same : Stmt := top 105
abbrev N__law_same : List Str := ["_law_found", "_law_due", "_law_is_so", "_law_k"]
theorem sc__law_same : FnScope N__law_same ["_law_found", "_law_due"] (defScope sD__law_same) := ⟨rfl, rfl, rfl, by decide +kernel, rfl, by decide +kernel, by decide +kernel⟩
abbrev sD__law_all_codes : Stmt := top 106
abbrev N__law_all_codes : List Str := ["_law_some"]
theorem sc__law_all_codes : FnScope N__law_all_codes [] (defScope sD__law_all_codes) := ⟨rfl, rfl, rfl, by decide +kernel, rfl, by decide +kernel, by decide +kernel⟩
abbrev sD__law_forms : Stmt := top 107
abbrev N__law_forms : List Str := ["_law_row"]
theorem sc__law_forms : FnScope N__law_forms [] (defScope sD__law_forms) := ⟨rfl, rfl, rfl, by decide +kernel, rfl, by decide +kernel, by decide +kernel⟩
abbrev sD__law_as_text : Stmt := top 108
abbrev N__law_as_text : List Str := ["_law_state", "_law_number", "_law_names", "_law_more", "_law_some"]
theorem sc__law_as_text : FnScope N__law_as_text ["_law_state", "_law_number", "_law_names"] (defScope sD__law_as_text) := ⟨rfl, rfl, rfl, by decide +kernel, rfl, by decide +kernel, by decide +kernel⟩
abbrev sD_law : Stmt := top 109
abbrev N_law : List Str := ["_law_script", "_law_state", "_law_op", "_law_base", "_law_many", "_law_more", "_law_boxes", "_law_low", "_law_high", "_law_numbers", "_law_first", "_law_lead", "_law_shown", "_law_words", "_law_row", "_law_text", "_law_found", "_law_due", "_law_k", "_law_number", "_law_box"]
theorem sc_law : FnScope N_law ["_law_script"] (defScope sD_law) := ⟨rfl, rfl, rfl, by decide +kernel, rfl, by decide +kernel, by decide +kernel⟩

/-- what the top has left, as far as it is asked -/
structure Txt (w : World) (K : PySem.W.Frag) (mg : Str → Option Value) : Prop where
  free_all : mg "all" = none
  free_any : mg "any" = none
  free_bool : mg "bool" = none
  free_dict : mg "dict" = none
  free_enumerate : mg "enumerate" = none
  free_int : mg "int" = none
  free_isinstance : mg "isinstance" = none
  free_len : mg "len" = none
  free_list : mg "list" = none
  free_min : mg "min" = none
  free_range : mg "range" = none
  free_set : mg "set" = none
  free_sorted : mg "sorted" = none
  free_str : mg "str" = none
  free_tuple : mg "tuple" = none
  free_zip : mg "zip" = none
  g_TAKE_FIRST : ∃ t, mg "TAKE_FIRST" = some (.int 144 t)
  g_TAKE_SPAN : ∃ t, mg "TAKE_SPAN" = some (.int 32 t)
  g_TAKE_NUMBERS : ∃ t, mg "TAKE_NUMBERS" = some (.int 8 t)
  g_NAME_MOST : ∃ t, mg "NAME_MOST" = some (.int 8 t)
  g_FIGURES_MOST : ∃ t, mg "FIGURES_MOST" = some (.int 4 t)
  g_PARTS_MOST : ∃ t, mg "PARTS_MOST" = some (.int 24 t)
  g_ROWS_MOST : ∃ t, mg "ROWS_MOST" = some (.int 400 t)
  g_MACROS_MOST : ∃ t, mg "MACROS_MOST" = some (.int 60 t)
  g_PARAMS_MOST : ∃ t, mg "PARAMS_MOST" = some (.int 4 t)
  g_WORD_SUMS_MOST : ∃ t, mg "WORD_SUMS_MOST" = some (.int 8 t)
  g_PLACES : ∃ t, mg "PLACES" = some (.int 256 t)
  g_SHORT_MOST : ∃ t, mg "SHORT_MOST" = some (.int 7 t)
  g_BEGIN : ∃ t, mg "BEGIN" = some (.int (-1) t)
  g_WORDS_MOST : ∃ t, mg "WORDS_MOST" = some (.int 256 t)
  g_WORD_MOST : ∃ t, mg "WORD_MOST" = some (.int 255 t)
  g_BEGINS_MOST : ∃ t, mg "BEGINS_MOST" = some (.int 16 t)
  g_OPS : mg "OPS" = some (.ref (He.ga K "OPS"))
  g_SPANS : mg "SPANS" = some (.ref (He.ga K "SPANS"))
  g_KEPT : mg "KEPT" = some (.ref (He.ga K "KEPT"))
  g_BOXES : mg "BOXES" = some (.ref (He.ga K "BOXES"))
  g_SHAPES : mg "SHAPES" = some (.ref (He.ga K "SHAPES"))
  g_WORDLESS : mg "WORDLESS" = some (.ref (He.ga K "WORDLESS"))
  g_BELOW_NOUGHT : mg "BELOW_NOUGHT" = some (.ref (He.ga K "BELOW_NOUGHT"))
  g_GOING : mg "GOING" = some (.ref (He.ga K "GOING"))
  g_NOT_BEHIND : mg "NOT_BEHIND" = some (.ref (He.ga K "NOT_BEHIND"))
  t_SPANS : ∀ H, SqT K H (He.ga K "SPANS") [.int 1, .int 4, .int 16]
  t_KEPT : ∀ H, SqT K H (He.ga K "KEPT") [.str "take", .str "at", .str "word", .str "room", .str "is", .str "macro", .str "end", .str "here"]
  t_WORDLESS : ∀ H, SqT K H (He.ga K "WORDLESS") [.str "", .str "is", .str "at"]
  t_BELOW_NOUGHT : ∀ H, SqT K H (He.ga K "BELOW_NOUGHT") [.str "word", .str "take", .str "take!"]
  t_GOING : ∀ H, SqT K H (He.ga K "GOING") [.str "jump", .str "call", .str "zero", .str "same"]
  t_NOT_BEHIND : ∀ H, SqT K H (He.ga K "NOT_BEHIND") [.str "stop", .str "back", .str "jump", .str "skip"]
  tab_BOXES : KTab K w (He.ga K "BOXES") ["r0", "r1", "r2", "r3"]
  v_BOXES : ∀ e ∈ ([("r0", 0), ("r1", 1), ("r2", 2), ("r3", 3)] : List (Str × Int)), KDct K w (He.ga K "BOXES") e.1 (.int e.2)
  tab_SHAPES : KTab K w (He.ga K "SHAPES") ["take", "at", "room"]
  v_SHAPES : ∀ e ∈ ([("take", [1, 1]), ("at", [0, 1]), ("room", [0, 1])] : List (Str × List Int)), ∃ a, KDct K w (He.ga K "SHAPES") e.1 (.ref a) ∧ ∀ H, SqT K H a (e.2.map V.int)
  tab : KTab K w (He.ga K "OPS") (codes.map fun c => c.1.str)
  ops : ∀ c ∈ codes, ∃ a, KDct K w (He.ga K "OPS") c.1.str (.ref a) ∧ ∀ H, SqT K H a [.int c.2.1, .int c.2.2.1, .int c.2.2.2]
end Rs
/-! any, all of a generator expression over a list; a code object's table told by what is true of it, so that no promise speaks of its growth. -/
namespace Rg
open PySem PySem.Spec PyProof.Rows L2
abbrev TabB := GxR.TabB
/-- a code object's table, whatever it has grown to -/
def TabO (P : Addr) : HO := .ext fun h => ∃ ps : Array Value, h.get? P = some { cls := .none, data := .fields ps } ∧ TriplesOk ps.toList
theorem tabO_ok {Pg : Program} {w : World} {H : Hp} {h : Heap} {P : Addr} {ps : Array Value} (e : h.get? P = some { cls := .none, data := .fields ps }) (t : TriplesOk ps.toList) : ObjOk Pg w H h P (TabO P) :=
  ⟨⟨ps, e, t⟩, ⟨_, e⟩, fun h1 h2 ⟨qs, e1, t1⟩ k => ⟨qs, k _ e1, t1⟩⟩
section
variable {X : Cx} {pins : List (Addr × Obj)} {σ : L2.St} {H : Hp} {s : Shared}
theorem hok_tab {h' : Heap} {P : Addr} {ps : Array Value} (I : HOk X.prog X.w H s.heap) (hP : H P = some (TabO P)) (k : ∀ b o, b ≠ P → s.heap.get? b = some o → h'.get? b = some o)
    (hm : h'.get? P = some { cls := .none, data := .fields ps }) (ht : TriplesOk ps.toList) : HOk X.prog X.w H h' := by
  intro b u e
  by_cases hb : b = P
  · subst hb
    rw [hP] at e
    cases e
    exact tabO_ok hm ht
  · refine (I b u e).stay (fun d v hd q => k d v ?_ q) (fun d q => q) fun d xs q => q
    rcases hd with z | z
    · rw [z]
      exact hb
    · intro z2
      rw [z2, hP] at z
      cases z
theorem inv_tab {P : Addr} {ps : Array Value} {h' : Heap} {g' : Array GenState} {d' : Drawn} {t' : Nat} (I : Inv X pins σ H s) (hP : H P = some (TabO P)) (k : ∀ b o, b ≠ P → s.heap.get? b = some o → h'.get? b = some o)
    (hm : h'.get? P = some { cls := .none, data := .fields ps }) (ht : TriplesOk ps.toList) (hg : AllBare g') :
    Inv X pins σ H { s with heap := h', gens := g', drawn := d', toks := t' } := by
  have nN : ∀ b, H b = none → b ≠ P := fun b e z => by
    rw [z, hP] at e
    cases e
  refine I.step (g' := g') (d' := d') (ch := []) (fun b hb => absurd hb (by simp)) (fun b o _ _ _ e n => k b o (nN b n) e) (fun b o _ _ _ e n => ⟨o.slots, k b o (nN b n) e⟩)
    (fun b o _ e n => n) (fun b o _ e => ?_) (fun b xs e => e) (fun b o u e => e) (fun b qs e => ⟨#[], by simpa using e⟩) (fun m hn => ?_) (hok_tab I.hok hP k hm ht) hg
  · by_cases hb : b = P
    · rw [hb]
      exact ⟨_, hm⟩
    · exact ⟨o, k b o hb e⟩
  · obtain ⟨ob, es, ep, ho, r⟩ := hn
    exact ⟨ob, es, ep, k _ ob (nN _ I.free) ho, r⟩
/-- a generator expression's own scope within the def's: its one name x, captured names are cells of the def -/
structure GenT (sc scope : Scope) (x : Str) : Prop where
  kind : scope.kind = .function
  co : scope.isCoroutine = false
  cell : ∀ y ∈ scope.names, y.2 ≠ .cell
  dot : scope.names.lookup (".0" : Str) = some NameKind.local
  loc : scope.names.lookup x = some .local
  free : ∀ y ∈ scope.names, y.2 = .free → sc.names.lookup y.1 = some .cell
def genTB (sc scope : Scope) (x : Str) : Bool :=
  (scope.kind == .function) && (!scope.isCoroutine && (scope.names.all (fun y => !(y.2 == .cell)) && ((scope.names.lookup (".0" : Str) == some NameKind.local) && ((scope.names.lookup x == some .local) && scope.names.all (fun y => !(y.2 == .free) || (sc.names.lookup y.1 == some .cell))))))
theorem genT_by {sc scope : Scope} {x : Str} (h : genTB sc scope x = true) : GenT sc scope x := by
  unfold genTB at h
  simp only [Bool.and_eq_true, beq_iff_eq, Bool.not_eq_true', List.all_eq_true, Bool.or_eq_true] at h
  obtain ⟨h1, h2, h3, h4, h5, h6⟩ := h
  refine ⟨h1, h2, fun y hy e => ?_, h4, h5, fun y hy e => ?_⟩
  · have := h3 y hy
    rw [e] at this
    exact absurd this (by decide)
  · rcases h6 y hy with q | q
    · rw [e] at q
      exact absurd q (by decide)
    · exact q
theorem GenT.gs {X : Cx} {scope : Scope} {x : Str} (S : GenT X.env.scope scope x) (ok : X.Ok) : GxR.GenS X.env scope x :=
  ⟨S.kind, S.co, S.cell, S.dot, S.loc, fun y hy e => ok.has y.1 (.inl (S.free y hy e))⟩
/-- the element of a generator expression over a list of xs: the test pb of the place -/
def EltL (X : Cx) (σ : L2.St) (H : Hp) (scope : Scope) (x : Str) (elt : Expr) (xs : List V) (pb : Nat → Bool) : Prop :=
  ∀ (cenv : Env) (A' : Around) (E' : Value → Shared → Prop) (i : Nat) (y : V) (v : Value) (s₂ : Shared) (m₂ : Str → Option Value), cenv.scope = scope → HOk X.prog X.w H s₂.heap → X.K.In s₂.heap →
    (∀ (j : Nat) (z : Str) (u : V), X.N[j]? = some z → σ[j]? = some (some u) → X.env.scope.names.lookup z = some .cell → (z, NameKind.free) ∈ scope.names → ∃ (uv : Value) (c : Addr), RelV u uv ∧ cenv.cells.lookup z = some c ∧ s₂.heap.IsCell c (some uv)) →
    xs[i]? = some y → RelV y v → s₂.heap.Ns cenv.locals m₂ → m₂ x = some v → wpAny (model X.prog X.w) A' (eval elt cenv) (fun r s₃ => r = .bool (pb i) ∧ Keeps s₂ s₃) E' s₂
/-- the generator g over a list of n items, ready to be walked -/
def Ready (X : Cx) (pins : List (Addr × Obj)) (σ : L2.St) (H1 : Hp) (n : Nat) (pb : Nat → Bool) (g : Addr) (s5 : Shared) : Prop :=
  ∃ (fp wr : List Addr) (G : Array GenState → Array GenState → Prop) (F : Nat → Value → Prop) (St : Nat → Shared → Prop),
    WalksS X.prog X.w X.A.in1 g fp wr G n F St ∧ St 0 s5 ∧ TruthOf X.prog X.w X.A.in1 F pb ∧ ∀ s', Moved wr G s5 s' → Inv X pins σ H1 s'
theorem lookup_memS {α : Type} {n : Str} {c : α} : ∀ {l : List (Str × α)}, l.lookup n = some c → (n, c) ∈ l
  | [], h => by cases h
  | (k, v) :: r, h => by
    rw [List.lookup_cons] at h
    cases hb : n == k with
    | true =>
      rw [hb] at h
      cases h
      rw [beq_iff_eq.mp hb]
      exact List.mem_cons_self
    | false =>
      rw [hb] at h
      exact List.mem_cons_of_mem _ (lookup_memS h)
theorem lookup_clo {cells : List (Str × Addr)} {names : List (Str × NameKind)} {z : Str} {c : Addr} (hm : (z, NameKind.free) ∈ names) (hc : cells.lookup z = some c) : (cloFrom cells names []).lookup z = some c := by
  obtain ⟨c', hc'⟩ := mem_lookup (cloFrom_has (cells := cells) (acc := []) hm)
  rw [hc']
  rcases cloFrom_mem (lookup_memS hc') with q | ⟨_, q⟩
  · cases q
  · rw [q, hc] <;> rfl
theorem gen_list {c P : Addr} {elt iter : Expr} {x : Str} {px gpos : Pos} {scope : Scope} {te : TE} {k : Nat} {Q' : Value → Shared → Prop} {R : List V → (Nat → Bool) → Hp → Prop}
    (hr : Room k X.A) (TB : TabB X.base X.mg c P) (hcode : X.env.code = .ref c) (S0 : GenT X.env.scope scope x) (hi : PE X iter te)
    (hs : ∀ v, genFold iter X.env v = pure v) (I : Inv X pins σ H s) (h : te σ H fun v H1 => ∃ (a : Addr) (xs : List V) (pb : Nat → Bool), v = .ref a ∧ SqL X.K H1 a xs ∧ H1 P = some (TabO P) ∧ EltL X σ H1 scope x elt xs pb ∧ R xs pb H1)
    (hQ : ∀ xs pb H1 g s5, R xs pb H1 → Ready X pins σ H1 xs.length pb g s5 → Q' (.ref g) s5) :
    wpAny (model X.prog X.w) X.A (eval (.GeneratorExp elt [⟨.Name x px, iter, [], 0⟩] scope gpos) X.env) Q' X.xe s := by
  have S := S0.gs I.ok
  refine wpAny_GeneratorExp_walksQ hr.hd S.co (closure_ok S.free) S.cell S.dot S.loc S.kind (by have := hr.dp; omega) ?_ hs
  refine thn (hi.run pins s σ H _ I h) fun xv s1 ⟨v, H1, I1, r1, q1⟩ => ?_
  obtain ⟨a, xs, pb, rfl, hS, hP, hel, q1⟩ := q1
  obtain rfl : xv = Value.ref a := r1
  obtain ⟨its, rv, pl, hz⟩ := I1.list hS
  have hlen : xs.length = its.length := rv.length
  have hil : s1.heap.IsList a its.toArray := pl.isList
  refine wpAny_pyIter_list hil ?_
  obtain ⟨⟨ps, hPs, ht⟩, _, _⟩ := (show ObjOk X.prog X.w H1 s1.heap P (TabO P) from I1.hok P _ hP)
  have hPlt : P < s1.heap.objs.size := Heap.lt_size hPs
  generalize ho : ({ cls := .type "list_iterator", data := .fields #[.ref a, .int 0 0] } : Obj) = o
  have hP2 : (s1.heap.push o).get? P = some { cls := .none, data := .fields ps } := Heap.get?_push_of_some _ hPs
  have cd : PySem.W.CodeHd (s1.heap.push o) c P := TB.code.keeps fun b u e => Heap.get?_push_of_some _ (I1.bk b u e)
  have lim2 : (s1.heap.push o).NoLimit := I1.nolimit.push o
  have hlt : a < s1.heap.objs.size := by
    obtain ⟨ob, e, _⟩ := hil
    exact Heap.lt_size e
  have cont : ∀ (code : Value) (h3 : Heap) (tk : Nat) (ps' : Array Value), Heap.ExtBut P (s1.heap.push o) h3 → (s1.heap.push o).objs.size ≤ h3.objs.size → h3.get? P = some { cls := .none, data := .fields ps' } → TriplesOk ps'.toList →
      wpAny (model X.prog X.w) X.A (builtinsFor X.env.globals X.env.builtins) (fun bi s₄ =>
        ∃ Ia fp wr n₀ Pf St₀ pz F, Value.ref s1.heap.objs.size = .ref Ia ∧ (∀ A' : Around, A'.handled = none → Walks X.prog X.w A' Ia fp wr n₀ Pf St₀) ∧ St₀ 0 s₄.heap ∧ (∀ b ∈ fp, b < s₄.heap.objs.size) ∧ s₄.heap.NoLimit ∧ cStatics ∉ wr ∧
          (∀ href : Heap, (∀ b o, s₄.heap.get? b = some o → href.get? b = some o) →
            QuietGen X.prog X.w (genEnv scope (cloFrom X.env.cells scope.names []) s₄.heap.objs.size code bi X.env) x [] elt (List.range s₄.heap.objs.size) wr Pf pz F href) ∧
          (∀ a h₅ tk gs, gs.bare = true → s₄.heap.objs.size < a → h₅.objs.size = a + 1 → (∀ b o, s₄.heap.get? b = some o → h₅.get? b = some o) →
            WalksS X.prog X.w X.A.in4 a (a :: s₄.heap.objs.size :: List.range s₄.heap.objs.size) (s₄.heap.objs.size :: wr) (GenOnlyQ s₄.gens.size) (passing pz n₀ 0).length
              (fun j y => ∃ i, (passing pz n₀ 0)[j]? = some i ∧ F i y) (GenAt X.prog X.w X.A.in4 a s₄.gens.size s₄.heap.objs.size (List.range s₄.heap.objs.size) wr pz n₀ F) →
            GenAt X.prog X.w X.A.in4 a s₄.gens.size s₄.heap.objs.size (List.range s₄.heap.objs.size) wr pz n₀ F 0 { s₄ with gens := s₄.gens.push gs, toks := tk, heap := h₅ } →
            Q' (.ref a) { s₄ with gens := s₄.gens.push gs, toks := tk, heap := h₅ })) X.xe { s1 with heap := h3, toks := tk } := by
    intro code h3 tk ps' hx hsz hP3 ht3
    obtain ⟨bm, ob, e1, e2, e3, e4, e5, e6, e7, e8⟩ := TB.bm
    have hcP : cStatics ≠ P := fun e => by
      obtain ⟨_, hns, _⟩ := I1.nolimit
      obtain ⟨o', es, ep, ho, hd, _⟩ := hns
      rw [e, hPs] at ho
      cases ho
      cases hd
    have hcl : cStatics < s1.heap.objs.size := let ⟨_, hns, _⟩ := I1.nolimit; hns.lt
    have sz2 : (s1.heap.push o).objs.size = s1.heap.objs.size + 1 := Heap.size_push ..
    have keep3 : ∀ b u, b ≠ P → s1.heap.get? b = some u → h3.get? b = some u := fun b u hb e => hx b u hb (Heap.get?_push_of_some _ e)
    have haP : a ≠ P := fun z => by
      obtain ⟨ob, e, hc, _⟩ := hil
      rw [z, hPs] at e
      cases e
      cases hc
    refine wpAny_builtinsFor (m := X.mg) (by rw [I1.ok.glob]; exact ((I1.mod.glob.keeps I1.bk).push o).extBut hx TB.gP) e1 e2 (keep3 _ _ e4 (I1.bk _ _ e5)) e6 e7 e8 ?_
    refine ⟨s1.heap.objs.size, [s1.heap.objs.size, a], [s1.heap.objs.size], its.toArray.size, (fun i v => its.toArray[i]? = some v), (fun i h => h.IsListIter s1.heap.objs.size a i ∧ h.IsList a its.toArray), (fun _ => true), (fun i y => y = .bool (pb i) ∧ i < xs.length), rfl,
      fun A' hA => Walks.list hA s1.heap.objs.size a (Nat.ne_of_lt hlt) its.toArray, ?_, ?_, lim2.extBut hx hcP, ?_, ?_, ?_⟩
    · refine ⟨?_, hil.at fun ob e => keep3 a ob haP e⟩
      subst ho
      exact ⟨_, hx _ _ (fun z => Nat.ne_of_lt hPlt z.symm) (Heap.get?_push_size _ rfl), rfl, rfl⟩
    · intro b hb
      rcases List.mem_cons.mp hb with z | z
      · rw [z]
        show s1.heap.objs.size < h3.objs.size
        omega
      · rw [List.mem_singleton.mp z]
        show a < h3.objs.size
        exact Nat.lt_of_lt_of_le hlt (by omega)
    · intro z
      rcases List.mem_cons.mp z with z | z
      · exact Nat.ne_of_lt hcl z
      · cases z
    · intro href hhref
      refine ⟨fun A' E' i v s₂ m₂ hA hPv hn hm hk => ?_, fun A' E' i v s₂ m₂ hA hPv hp hn hm hk => ?_⟩
      · simp only [List.forIn_nil]
        exact wpAny_pure ⟨rfl, GxR.keeps_refl _⟩
      · have stand : ∀ b u, b ≠ s1.heap.objs.size → h3.get? b = some u → s₂.heap.get? b = some u := fun b u hb e => hk b (List.mem_range.mpr (Heap.lt_size e)) (fun z => hb (List.mem_singleton.mp z)) u (hhref b u e)
        have nI : ∀ b u, s1.heap.get? b = some u → b ≠ s1.heap.objs.size := fun b u e => Nat.ne_of_lt (Heap.lt_size e)
        have k2 : ∀ b u, b ≠ P → s1.heap.get? b = some u → s₂.heap.get? b = some u := fun b u hb e => stand b u (nI b u e) (keep3 b u hb e)
        have hok2 : HOk X.prog X.w H1 s₂.heap := hok_tab I1.hok hP k2 (stand P _ (nI P _ hPs) hP3) ht3
        have kP : ∀ b u, X.base.get? b = some u → b ≠ P := fun b u e z => by
          have := (I1.bs b u e).2
          rw [z, hP] at this
          cases this
        have kin : X.K.In s₂.heap := I1.ok.mod.kin.keeps fun b u e => k2 b u (kP b u e) (I1.bk b u e)
        obtain ⟨yv, hy⟩ : ∃ yv, xs[i]? = some yv := by
          have hpv2 : its[i]? = some v := by simpa using hPv
          have := (List.getElem?_eq_some_iff.mp hpv2).1
          exact ⟨xs[i], List.getElem?_eq_getElem (by omega)⟩
        have ry : RelV yv v := by
          have hpv2 : its[i]? = some v := by simpa using hPv
          obtain ⟨u, hu, ru⟩ := Vals.get rv hy
          rw [hpv2] at hu
          cases hu
          exact ru
        refine wpAny_mono (hel _ A' E' i yv v s₂ m₂ rfl hok2 kin ?_ hy ry hn hm) (fun y s3 r => ⟨⟨r.1, (List.getElem?_eq_some_iff.mp hy).1⟩, r.2⟩) fun _ _ e => e
        intro j z u hj hu hcell hfree
        obtain ⟨m, hns, hl⟩ := I1.loc
        obtain ⟨uv, ru, lk⟩ := hl j z u hj hu (.inr (.inl hcell))
        rcases lk with ⟨q, _⟩ | ⟨_, cc, q1, q2⟩
        · rw [show X.env.kindOf z = X.env.scope.names.lookup z from rfl, hcell] at q
          cases q
        · obtain ⟨oc, q3, q4⟩ := q2
          refine ⟨uv, cc, ru, lookup_clo hfree q1, oc, k2 cc oc (fun e => ?_) q3, q4⟩
          rw [e, hPs] at q3
          cases q3
          cases q4
    · intro g h5 tk5 gs hgb hag hsz5 hk5 W5 hat
      simp only [GxR.passing_true, List.length_range] at W5
      rw [show its.toArray.size = xs.length by rw [List.size_toArray, hlen]] at W5
      refine hQ xs pb H1 g _ q1 ⟨_, _, _, _, _, W5.in4_1, ?_, ?_, fun s' hm => ?_⟩
      · rw [show its.toArray.size = xs.length by rw [List.size_toArray, hlen]] at hat
        exact hat
      · intro j y sj Qj Ej hy hQj
        obtain ⟨i, hij, rfl, hcc⟩ := hy
        obtain ⟨hj, ej⟩ := List.getElem?_eq_some_iff.mp hij
        rw [List.getElem_range] at ej
        subst ej
        exact wpAny_truthy_bool hQj
      · have nwr : ∀ b u, s1.heap.get? b = some u → b ∉ h3.objs.size :: [s1.heap.objs.size] := fun b u e hb => by
          have hl := Heap.lt_size e
          rcases List.mem_cons.mp hb with z | z
          · rw [z] at hl
            have h9 : (h3.objs.size : Nat) < s1.heap.objs.size := hl
            omega
          · rcases List.mem_cons.mp z with z | z
            · rw [z] at hl
              exact Nat.lt_irrefl _ hl
            · cases z
        have J := inv_tab (h' := s'.heap) (g' := s'.gens) (d' := s'.drawn) (t' := s'.toks) I1 hP (fun b u hb e => hm.heap b u (nwr b u e) (hk5 b u (keep3 b u hb e)))
          (hm.heap P _ (nwr P _ hPs) (hk5 P _ hP3)) ht3 (AllBare.movedS (I1.bare.push hgb) hm)
        rw [GxR.sh_eta s1 s' hm.os] at J
        exact J
  refine ⟨lim2, ?_⟩
  cases hf : codeAmong gpos ps.toList with
  | none =>
    refine wpAny_genexprCodeX hcode (cd.code hP2 ht) (cd.tab hP2) hf fun c' h' tk hx hge hlt hco' _ htab' _ => ?_
    obtain ⟨o1, vs, f1, tf, fl, tg, inF, tx, tt, op, _, _, _, _, _, _, _, _, _, htr, _⟩ := hco'
    exact cont _ h' tk _ hx (Nat.le_trans hge (Nat.le_of_lt hlt)) htab'.2 htr
  | some cv =>
    refine wpAny_genexprCode_hit hcode (cd.code hP2 ht) hf ?_
    exact cont cv (s1.heap.push o) s1.toks ps (Heap.ExtBut.refl _ _) (Nat.le_refl _) hP2 ht
/-- any(test for x in e), all(..), e a list -/
def tAnyL (X : Cx) (P : Addr) (scope : Scope) (x : Str) (elt : Expr) (te : TE) : TE := fun σ H Q => te σ H fun v H1 => ∃ (a : Addr) (xs : List V) (pb : Nat → Bool), v = .ref a ∧ SqL X.K H1 a xs ∧ H1 P = some (TabO P) ∧ EltL X σ H1 scope x elt xs pb ∧ Q (.bl ((List.range xs.length).any pb)) H1
def tAllL (X : Cx) (P : Addr) (scope : Scope) (x : Str) (elt : Expr) (te : TE) : TE := fun σ H Q => te σ H fun v H1 => ∃ (a : Addr) (xs : List V) (pb : Nat → Bool), v = .ref a ∧ SqL X.K H1 a xs ∧ H1 P = some (TabO P) ∧ EltL X σ H1 scope x elt xs pb ∧ Q (.bl ((List.range xs.length).all pb)) H1
theorem pe_anyL {c P : Addr} {elt iter : Expr} {x : Str} {px p pos gpos : Pos} {scope : Scope} {te : TE} {k : Nat}
    (hr : Room k X.A) (hg : Gl X "any") (hm : X.mg "any" = none) (TB : TabB X.base X.mg c P) (hcode : X.env.code = .ref c) (S0 : GenT X.env.scope scope x) (hi : PE X iter te)
    (hs : ∀ v, genFold iter X.env v = pure v)
    (he : starEach [.GeneratorExp elt [⟨.Name x px, iter, [], 0⟩] scope gpos] X.env = (false, eval (.GeneratorExp elt [⟨.Name x px, iter, [], 0⟩] scope gpos) X.env) :: starEach [] X.env := by rfl) :
    PE X (.Call (.Name "any" p) [.GeneratorExp elt [⟨.Name x px, iter, [], 0⟩] scope gpos] [] pos) (tAnyL X P scope x elt te) := by
  refine ⟨fun pins s σ H Q I h => ?_⟩
  refine wpAny_Call_Name_kw (ld_blt I hg hm boot_any ?_)
  refine PyProof.Rows.callWith_builtin1 ?_ he (by rfl)
  rw [he]
  show wpAny _ _ (spliced ((false, eval (.GeneratorExp elt [⟨.Name x px, iter, [], 0⟩] scope gpos) X.env) :: backTo pos (starEach [] X.env))) _ _ s
  refine Calls.spliced_cons (gen_list (R := fun xs pb H1 => Q (.bl ((List.range xs.length).any pb)) H1) hr TB hcode S0 hi hs I h fun xs pb H1 g s5 hR hG => ?_)
  obtain ⟨fp, wr, G, F, St, W, hst, htr, hI⟩ := hG
  refine Calls.spliced_nil ?_
  refine call_any_walkS (W.self 0 _ _ _ hst ⟨g, fp, wr, G, _, F, St, _, rfl, W, hst, htr, fun s' hmv => ?_⟩)
  exact ⟨.bl _, H1, hI s' hmv, rfl, hR⟩
theorem pe_allL {c P : Addr} {elt iter : Expr} {x : Str} {px p pos gpos : Pos} {scope : Scope} {te : TE} {k : Nat}
    (hr : Room k X.A) (hg : Gl X "all") (hm : X.mg "all" = none) (hb : bootBuiltins "all" = some (.builtin "all")) (TB : TabB X.base X.mg c P) (hcode : X.env.code = .ref c) (S0 : GenT X.env.scope scope x) (hi : PE X iter te)
    (hs : ∀ v, genFold iter X.env v = pure v)
    (he : starEach [.GeneratorExp elt [⟨.Name x px, iter, [], 0⟩] scope gpos] X.env = (false, eval (.GeneratorExp elt [⟨.Name x px, iter, [], 0⟩] scope gpos) X.env) :: starEach [] X.env := by rfl) :
    PE X (.Call (.Name "all" p) [.GeneratorExp elt [⟨.Name x px, iter, [], 0⟩] scope gpos] [] pos) (tAllL X P scope x elt te) := by
  refine ⟨fun pins s σ H Q I h => ?_⟩
  refine wpAny_Call_Name_kw (ld_blt I hg hm hb ?_)
  refine PyProof.Rows.callWith_builtin1 ?_ he (by rfl)
  rw [he]
  show wpAny _ _ (spliced ((false, eval (.GeneratorExp elt [⟨.Name x px, iter, [], 0⟩] scope gpos) X.env) :: backTo pos (starEach [] X.env))) _ _ s
  refine Calls.spliced_cons (gen_list (R := fun xs pb H1 => Q (.bl ((List.range xs.length).all pb)) H1) hr TB hcode S0 hi hs I h fun xs pb H1 g s5 hR hG => ?_)
  obtain ⟨fp, wr, G, F, St, W, hst, htr, hI⟩ := hG
  refine Calls.spliced_nil ?_
  refine call_all_walkS (W.self 0 _ _ _ hst ⟨g, fp, wr, G, _, F, St, _, rfl, W, hst, htr, fun s' hmv => ?_⟩)
  exact ⟨.bl _, H1, hI s' hmv, rfl, hR⟩
/-! elements -/
theorem keeps_tok {s s1 s2 : Shared} (a : Keeps s s1) (b : Keeps s1 s2) : Keeps s s2 := by
  obtain ⟨h1, t1, rfl, k1⟩ := a
  obtain ⟨h2, t2, rfl, k2⟩ := b
  exact ⟨h2, t2, rfl, fun b o e => k2 b o (k1 b o e)⟩
/-- whether the i-th key is there -/
def inAt (kvs : List (L2.Key × V)) (ks : List L2.Key) (i : Nat) : Bool := match ks[i]? with
  | some k => (valV kvs k).isSome
  | none => false
/-- x in y.f, y a captured name of the def that holds an instance, its field f a dict with int and text keys -/
theorem elt_inFld {scope : Scope} {x y f : Str} {p1 p2 p3 p4 : Pos} {xs : List V} {j : Nat} {a C dx d : Addr} {fs : List (Str × V)} {kvs : List (L2.Key × V)} {ks : List L2.Key}
    (hk : scope.kind = .function) (hl : scope.names.lookup x = some .local) (hf : (y, NameKind.free) ∈ scope.names) (hfl : scope.names.lookup y = some .free) (hc : X.env.scope.names.lookup y = some .cell) (hN : X.N[j]? = some y) (hσ : σ[j]? = some (some (.ref a)))
    (ha : H a = some (.ins C dx fs)) (cl : Cls X.K C) (na : NoAttr X.K C f) (lf : fs.lookup f = some (.ref d)) (hd : H d = some (.dK kvs)) (hxs : xs = ks.map kV)
    (hb : ∀ cenv : Env, cenv.scope = scope → attributeBase (.Name y p2) f cenv (eval (.Name y p2) cenv) = eval (.Name y p2) cenv)
    (d1 : (x == ("__debug__" : Str)) = false := by decide) (d2 : (y == ("__debug__" : Str)) = false := by decide) (d3 : (y == ("__classdict__" : Str)) = false := by decide) :
    EltL X σ H scope x (.Compare (.Name x p1) [.In] [.Attribute (.Name y p2) f p3] p4) xs (inAt kvs ks) := by
  subst hxs
  intro cenv A' E' i z v s₂ m₂ hs hok kin cap hz rz hn hm
  obtain ⟨uv, c, ru, hcl, hcell⟩ := cap j y _ hN hσ hc hf
  obtain rfl : uv = Value.ref a := ru
  refine wpAny_Compare1 ?_
  refine wpAny_Name (wpAny_loadName_local (by rw [hs]; exact hk) (show cenv.scope.names.lookup x = some .local by rw [hs]; exact hl) hn hm ?_) d1
  refine attr_of (hb cenv hs) ?_
  refine wpAny_Name (wpAny_loadName_free (by rw [hs]; exact hk) (show cenv.scope.names.lookup y = some .free by rw [hs]; exact hfl) hcl hcell ?_ d3) d2
  obtain ⟨mA, O, r, _, _, _⟩ := ins_get hok ha
  obtain ⟨u, hu, ru2⟩ := RelO.some_of (v := V.ref d) (o := mA f) (by rw [← lf]; exact r f)
  refine get_map kin O (cl.get f) cl.hd na hu (handed_of ru2) ?_
  obtain rfl : u = Value.ref d := ru2
  rw [List.getElem?_map] at hz
  cases ek : ks[i]? with
  | none =>
    rw [ek] at hz
    cases hz
  | some k =>
    rw [ek] at hz
    cases hz
    obtain ⟨_, hsys, vs, rel, dd⟩ := dk_of hok hd
    refine wpAny_in_of (kV_is rz) hsys dd.mapOf ?_
    rw [← (rel.val k).isSome_eq]
    refine ⟨?_, _, _, rfl, fun b o e => e⟩
    unfold inAt
    rw [ek]
end
end Rg
/-! a law whose program makes generator expressions: its promise is told of heaps in which the tables are TabO, its end of heaps in which they are empty -/
namespace Rg
open PySem PySem.Spec PyProof.Rows L2
theorem tabB_of {base : Heap} {mg : Str → Option Value} {c P : Addr} (t : LamX.TabB base mg c P) : TabB base mg c P := ⟨t.code, t.bm, t.gP⟩
def tabH (ts : List Addr) (H : Hp) : Hp := fun b => if b ∈ ts then some (TabO b) else H b
theorem tabH_in {ts : List Addr} {H : Hp} {b : Addr} (h : b ∈ ts) : tabH ts H b = some (TabO b) := if_pos h
theorem tabH_out {ts : List Addr} {H : Hp} {b : Addr} (h : b ∉ ts) : tabH ts H b = H b := if_neg h
def spTab (ts : List Addr) (sp : Sp) : Sp := fun vs H Q _ => (∀ P ∈ ts, H P = some (.tbl #[])) ∧ sp vs (tabH ts H) (fun v H' => (∀ P ∈ ts, H' P = some (TabO P)) ∧ ∀ J, Q v J) fun _ _ _ => False
def fldsAt (h : Heap) (b : Addr) : Array Value := match h.get? b with
  | some ⟨_, _, .fields ps, _⟩ => ps
  | _ => #[]
theorem fldsAt_eq {h : Heap} {b : Addr} {ps : Array Value} (e : h.get? b = some { cls := .none, data := .fields ps }) : fldsAt h b = ps := by
  unfold fldsAt
  rw [e]
/-- the tables told as they stand -/
def backH (ts : List Addr) (h : Heap) (H : Hp) : Hp := fun b => if b ∈ ts then some (.tbl (fldsAt h b)) else H b
theorem fnok_tab {P : Program} {w : World} {K : PySem.W.Frag} {mg : Str → Option Value} {base : Heap} {k : Nat} {f : Addr} {fd : FuncData} {ps : List Str} {sp : Sp} (ts : List Addr) (F : FnOk P w K mg base L2.CX0 k f fd ps sp) : FnOk P w K mg base L2.CX0 k f fd ps (spTab ts sp) := by
  refine ⟨fun vs H Q E h => F.len vs _ _ _ h.2, fun A outer s H args us vs Q E hr e0 hb hv h => ?_⟩
  obtain ⟨hT, h⟩ := h
  have out : ∀ {b : Addr} {u : HO}, H b = some u → (∀ qs, u ≠ .tbl qs) → b ∉ ts := fun e n z => by
    rw [hT _ z] at e
    exact n _ (Option.some.inj e).symm
  have outN : ∀ {b : Addr}, H b = none → b ∉ ts := fun e z => by
    rw [hT _ z] at e
    cases e
  have okT : HOk P w (tabH ts H) s.heap := fun b u e => by
    by_cases q : b ∈ ts
    · rw [tabH_in q] at e
      cases e
      exact tabO_ok (show s.heap.get? b = some { cls := .none, data := .fields #[] } from e0.hok b _ (hT b q)) True.intro
    · rw [tabH_out q] at e
      exact (e0.hok b u e).stay (fun d v _ z => z) (fun d z => (tabH_out (out z (fun qs y => by cases y))).trans z) fun d xs z => (tabH_out (out z (fun qs y => by cases y))).trans z
  have e1 : Env0 P w K mg base A outer s (tabH ts H) := ⟨e0.frames, e0.mod, fun b o e => ⟨(e0.bs b o e).1, (tabH_out (outN (e0.bs b o e).2)).trans (e0.bs b o e).2⟩, e0.bsz, e0.funs, fun b m => (tabH_out (outN (e0.frf b m))).trans (e0.frf b m), okT, e0.bare⟩
  refine codeAny_mono (F.run A outer s (tabH ts H) args us vs _ _ hr e1 hb hv h) fun r s' z => ?_
  match r, z with
  | .error _, z => exact False.elim z
  | .ok .next, z => exact False.elim z
  | .ok .brk, z => exact False.elim z
  | .ok .cont, z => exact False.elim z
  | .ok (.ret u), z =>
    obtain ⟨v, H', os, bare, un, hok', rv, hT', hq⟩ := z
    have tab : ∀ b ∈ ts, s'.heap.get? b = some { cls := .none, data := .fields (fldsAt s'.heap b) } := fun b m => by
      obtain ⟨⟨qs, e, _⟩, _⟩ := (show ObjOk P w H' s'.heap b (TabO b) from hok' b _ (hT' b m))
      rw [fldsAt_eq e]
      exact e
    have inn : ∀ {b : Addr}, b ∈ ts → backH ts s'.heap H' b = some (.tbl (fldsAt s'.heap b)) := fun m => if_pos m
    have off : ∀ {b : Addr}, b ∉ ts → backH ts s'.heap H' b = H' b := fun m => if_neg m
    have notT : ∀ {b : Addr} {u : HO}, H' b = some u → u ≠ TabO b → b ∉ ts := fun e n m => by
      rw [hT' _ m] at e
      exact n (Option.some.inj e).symm
    refine ⟨v, backH ts s'.heap H', os, bare, ⟨fun b o e n hf hx => ?_, fun b o e n hf hx => ?_, fun b o e n hx => ?_, fun b o e hx => un.there b o e hx, fun b xs e => ?_, fun b o x e => ?_, fun b qs e => ?_⟩, fun b x e => ?_, rv, hq _⟩
    · exact un.keep b o e ((tabH_out (outN n)).trans n) hf hx
    · exact un.slot b o e ((tabH_out (outN n)).trans n) hf hx
    · exact (off (outN n)).trans (un.free b o e ((tabH_out (outN n)).trans n) hx)
    · have m := out e (fun qs y => by cases y)
      exact (off m).trans (un.tups b xs ((tabH_out m).trans e))
    · have m := out e (fun qs y => by cases y)
      exact (off m).trans (un.frzs b o x ((tabH_out m).trans e))
    · by_cases m : b ∈ ts
      · rw [hT b m] at e
        cases e
        exact ⟨fldsAt s'.heap b, by rw [inn m, Array.empty_append]⟩
      · obtain ⟨more, y⟩ := un.tbls b qs ((tabH_out m).trans e)
        exact ⟨more, (off m).trans y⟩
    · by_cases m : b ∈ ts
      · rw [inn m] at e
        cases e
        exact tab b m
      · rw [off m] at e
        exact (hok' b x e).stay (fun d y _ z => z) (fun d z => (off (notT z (fun y => by cases y))).trans z) fun d xs z => (off (notT z (fun y => by cases y))).trans z
/-- a def of the top with its code object known -/
theorem code_of {K : PySem.W.Frag} {x : Str} {params : Arguments} {body : List Stmt} {scope : Scope} {fd : FuncData} (F : FunD K x x params body scope [] [] (He.ga K x) fd) :
    ∃ (oc : Value) (od : Option Addr) (dV kV doc pm : Value) (an : Option Addr) (ct : Value) (osl : Array (Option Value)), fd = PySem.W.fnOf x x params body scope dV kV doc pm an (.ref (He.codeOf K (x, none))) ct ∧ K.lookup (He.ga K x) = some ⟨oc, od, .func fd, osl⟩ ∧ PySem.W.codeIn K (.ref (He.codeOf K (x, none))) x = true := by
  obtain ⟨oc, od, dV, kV, doc, pm, an, cdv, ct, osl, e, lk, hcd, _, _⟩ := F.ex
  obtain ⟨c, rfl⟩ := He.codeIn_ref hcd
  have ec : He.codeOf K (x, none) = c := He.codeOf_eq (p := (x, none)) (fd := fd) lk (by rw [e])
  rw [ec]
  exact ⟨oc, od, dV, kV, doc, pm, an, ct, osl, e, lk, hcd⟩
end Rg
namespace Rs
open PySem PySem.Spec PyProof.Rows L2 C8
theorem hu2_of {A : Around} {k : Nat} (hr : Room k A) : A.units + 2 < cLine := by
  have := hr.un
  omega
section
variable {X : Cx} {k j : Nat} {x : Str} {C : Addr} {sp : Sp} {dvs : List V} {p pos : Pos}
theorem pe_mk0 (c : Mak X.prog X.w X.K X.mg X.base k x C sp dvs) (hr : Room j X.A) (hk : k + 1 ≤ j) (hg : Gl X x) (hdb : (x == ("__debug__" : Str)) = false := by decide) :
    PE X (.Call (.Name x p) [] [] pos) (tMake C sp dvs C8.E0 tNil) := by
  obtain ⟨f, fd, ps, ds, M, F, hm, b, d⟩ := c.ex
  exact pe_make0 M F (hr.mono hk) hg hm b d C8.pass0 hdb
end
section
variable {P : Program} {w : World} {K : PySem.W.Frag} {mg : Str → Option Value} {base : Heap}
/-- a def of the top whose code object is asked for -/
theorem calT_of {x : Str} {st : Stmt} {N ps : List Str} {k : Nat} {sp : Sp} (D : DefAt K mg x st) (S : FnScope N ps (defScope st))
    (hb : ∀ (kV doc pm : Value) (an : Option Addr) (cdv ct : Value) (us : List Value), us.length = ps.length → bindArgs (PySem.W.fnOf x x (defArgs st) (defBody st) (defScope st) .none kV doc pm an cdv ct) ⟨us, []⟩ = pure (ps.zip us))
    (len : ∀ vs H Q E, sp vs H Q E → vs.length = ps.length)
    (hbody : ∀ (A : Around) (outer : List Env) (s : Shared) (H : Hp) (vs : List V) (Q : VK) (E : XK), Room k (A.deeper (envOfC x (defScope st) s.heap.objs.size (He.ga K x) (.ref (He.codeOf K (x, none))))) → sp vs H Q E →
      ∃ t, PSs (cxOf L2.CX0 P w K mg base N x (defScope st) (He.ga K x) (.ref (He.codeOf K (x, none))) A outer s H E).nox (defBody st) t ∧ t { nx := fun _ H' => Q .non H', rt := Q } (start N vs) H) : C8.Cal P w K mg base (k + 1) x sp [] := by
  obtain ⟨fd, F⟩ := D.ex
  obtain ⟨oc, od, dV, kV, doc, pm, an, ct, osl, e, lk, hcd⟩ := Rg.code_of F
  refine ⟨He.ga K x, fd, ps, [], ?_, D.mgx, F.kp, F.bindsN hb, .nil⟩
  subst e
  refine fn_of lk hcd S len fun A outer s H vs Q E hr h => ?_
  obtain ⟨t, h1, h2⟩ := hbody A outer s H vs Q E hr h
  exact ⟨t, h1.nox, h2⟩
def tabAt (K : PySem.W.Frag) (x : Str) : Addr := (He.cT K (x, none)).2
end
end Rs
/-! whether a text is a key of a written dict -/
namespace Rs
open PySem PySem.Spec PyProof.Rows L2
theorem keys_find {z : Str} : ∀ (es : List DictEntry) (ks : List Str), es.length = ks.length → (∀ (i : Nat) (k : Str), ks[i]? = some k → ∃ (en : DictEntry) (t : Tok), es[i]? = some en ∧ en.key = .str k t) →
    ((es.find? (·.key.isStr z)).isSome = decide (z ∈ ks)) ∧ es.any (·.refKey) = false
  | [], [], _, _ => ⟨by simp, rfl⟩
  | [], _ :: _, h, _ => by cases h
  | _ :: _, [], h, _ => by cases h
  | e :: r, k :: l, h, f => by
    obtain ⟨en, t, h1, h2⟩ := f 0 k rfl
    obtain rfl : e = en := Option.some.inj h1
    obtain ⟨i1, i2⟩ := keys_find r l (by simpa using h) (fun i k' q => f (i + 1) k' q)
    have hk : e.key.isStr z = decide (k = z) := by
      rw [h2]
      show (k == z) = _
      by_cases q : k = z
      · subst q; simp
      · simp [q]
    constructor
    · by_cases q : k = z
      · rw [List.find?_cons_of_pos (by rw [hk]; exact decide_eq_true q)]
        simp [q]
      · rw [List.find?_cons_of_neg (by rw [hk]; simpa using q), i1]
        have : z ≠ k := Ne.symm q
        simp [this]
    · rw [List.any_cons, i2, Bool.or_false]
      unfold DictEntry.refKey
      rw [h2]
theorem ktab_ns {K : PySem.W.Frag} {w : World} {d : Addr} {ks : List Str} (T : KTab K w d ks) (z : Str) : ∃ (es : Array DictEntry) (n : Nat) (r : Option Value), KDict K w d es n ∧ PySem.W.nsIn K d z = some r ∧ r.isSome = decide (z ∈ ks) := by
  obtain ⟨es, n, h1, h2, h3, h4, h5⟩ := T.ex
  obtain ⟨i1, i2⟩ := keys_find (z := z) es.toList ks (by simpa using h4) (fun i k q => by
    obtain ⟨en, t, a, b⟩ := h5 i k q
    exact ⟨en, t, by simpa using a, b⟩)
  have e : PySem.W.nsIn K d z = some ((es.toList.find? (·.key.isStr z)).map (·.val)) := by
    unfold PySem.W.nsIn
    rw [h1]
    show (match es.toList.find? (·.key.isStr z) with | some e => some (some e.val) | none => if es.toList.any (·.refKey) then none else some none) = _
    cases q : es.toList.find? (·.key.isStr z) with
    | some x => rfl
    | none =>
      rw [i2] <;> rfl
  refine ⟨es, n, _, ⟨h1, h2, h3⟩, e, ?_⟩
  rw [Option.isSome_map]
  exact i1
def rInK (K : PySem.W.Frag) (w : World) (neg : Bool) : R2 := fun x y H Q => ∃ (z : Str) (d : Addr) (ks : List Str), x = .str z ∧ y = .ref d ∧ KTab K w d ks ∧ Q (.bl (neg != decide (z ∈ ks))) H
theorem op_inK {X : Cx} : OpR X (compareOp .In) (rInK X.K X.w false) := by
  intro pins s σ H x y v u Q I rx ry h
  obtain ⟨z, d, ks, rfl, rfl, T, q⟩ := h
  obtain ⟨es, n, r, D, e1, e2⟩ := ktab_ns T z
  exact op_in_kd D pins s σ H _ _ v u Q I rx ry ⟨z, r, rfl, rfl, e1, by rw [e2]; simpa using q⟩
theorem op_notInK {X : Cx} : OpR X (compareOp .NotIn) (rInK X.K X.w true) := by
  intro pins s σ H x y v u Q I rx ry h
  obtain ⟨z, d, ks, rfl, rfl, T, q⟩ := h
  obtain ⟨es, n, r, D, e1, e2⟩ := ktab_ns T z
  exact op_notIn_kd D pins s σ H _ _ v u Q I rx ry ⟨z, r, rfl, rfl, e1, by rw [e2]; simpa using q⟩
end Rs
/-! any, all of a generator expression over a text held by a name: the table hidden as in RGen; signs between two signs -/
namespace Rg
open PySem PySem.Spec PyProof.Rows L2
section
variable {X : Cx} {pins : List (Addr × Obj)} {σ : L2.St} {H H2 : Hp} {s s' : Shared}
/-- the table told as it stands -/
theorem inv_out {P : Addr} (I : Inv X pins σ H s) (hP : H P = some (TabO P)) : ∃ ps : Array Value, TriplesOk ps.toList ∧ Inv X pins σ (upd H P (.tbl ps)) s := by
  obtain ⟨⟨ps, e, t⟩, _⟩ := (show ObjOk X.prog X.w H s.heap P (TabO P) from I.hok P _ hP)
  have no : ∀ {b : Addr} {u : HO}, H b = some u → u ≠ TabO P → b ≠ P := fun h n z => by
    rw [z, hP] at h
    exact n (Option.some.inj h).symm
  have nn : ∀ {b : Addr}, H b = none → b ≠ P := fun h z => by
    rw [z, hP] at h
    cases h
  refine ⟨ps, t, ?_⟩
  have ok : HOk X.prog X.w (upd H P (.tbl ps)) s.heap := fun b u q => by
    by_cases hb : b = P
    · subst hb
      rw [upd_same] at q
      cases q
      exact e
    · rw [upd_ne hb] at q
      exact (I.hok b u q).stay (fun d v _ z => z) (fun d z => (upd_ne (no z (fun y => by cases y))).trans z) fun d xs z => (upd_ne (no z (fun y => by cases y))).trans z
  exact {
    ok := I.ok
    os := I.os
    bare := I.bare
    base := ⟨I.base.keep, I.base.slot, fun b o q n x => (upd_ne (nn (I.base.free b o q n x))).trans (I.base.free b o q n x), I.base.there, fun b xs q => (upd_ne (no (I.base.tups b xs q) (fun y => by cases y))).trans (I.base.tups b xs q), fun b o u q => (upd_ne (no (I.base.frzs b o u q) (fun y => by cases y))).trans (I.base.frzs b o u q), fun b qs q => by
      obtain ⟨more, z⟩ := I.base.tbls b qs q
      exact ⟨more, (upd_ne (no z (fun y => by cases y))).trans z⟩⟩
    loc := I.loc
    cell := I.cell
    free := (upd_ne (nn I.free)).trans I.free
    freeC := fun x c q => (upd_ne (nn (I.freeC x c q))).trans (I.freeC x c q)
    pin := fun p hp => ⟨(I.pin p hp).1, (upd_ne (nn (I.pin p hp).2.1)).trans (I.pin p hp).2.1, (I.pin p hp).2.2⟩
    hok := ok
    len := I.len
  }
/-- and hidden again -/
theorem inv_back {P : Addr} {ps : Array Value} (I : Inv X pins σ H s) (hP : H P = some (TabO P)) (hT : GxR.Tabbed P (upd H P (.tbl ps)) H2) (J : Inv X pins σ H2 s') : Inv X pins σ H s' := by
  obtain ⟨⟨qs, hq, ht⟩, ho⟩ := hT
  have at_ : ∀ {b : Addr}, b ≠ P → H2 b = H b := fun hb => (ho _ hb).trans (upd_ne hb)
  have ok : HOk X.prog X.w H s'.heap := fun b u q => by
    by_cases hb : b = P
    · subst hb
      rw [hP] at q
      cases q
      exact tabO_ok (show s'.heap.get? b = some { cls := .none, data := .fields qs } from J.hok b _ hq) ht
    · have no : ∀ {d : Addr} {v : HO}, H2 d = some v → (∀ ps, v ≠ .tbl ps) → d ≠ P := fun h n z => by
        rw [z, hq] at h
        exact n _ (Option.some.inj h).symm
      exact (J.hok b u ((at_ hb).trans q)).stay (fun d v _ z => z) (fun d z => (at_ (no z (fun _ y => by cases y))).symm.trans z) fun d xs z => (at_ (no z (fun _ y => by cases y))).symm.trans z
  exact {
    ok := I.ok
    os := J.os
    bare := J.bare
    base := ⟨J.base.keep, J.base.slot, I.base.free, J.base.there, I.base.tups, I.base.frzs, I.base.tbls⟩
    loc := J.loc
    cell := J.cell
    free := I.free
    freeC := I.freeC
    pin := fun p hp => ⟨(J.pin p hp).1, (I.pin p hp).2.1, (I.pin p hp).2.2⟩
    hok := ok
    len := I.len
  }
/-- all(test for x in word), any(..), word a text -/
def tAllV (P : Addr) (pb : Nat → Bool) (i : Nat) : TE := fun σ H Q => ∃ a : Str, σ[i]? = some (some (.str a)) ∧ H P = some (TabO P) ∧ Q (.bl (a.cps.toList.all pb)) H
def tAnyV (P : Addr) (pb : Nat → Bool) (i : Nat) : TE := fun σ H Q => ∃ a : Str, σ[i]? = some (some (.str a)) ∧ H P = some (TabO P) ∧ Q (.bl (a.cps.toList.any pb)) H
theorem pe_allV {c P : Addr} {elt iter : Expr} {x : Str} {px p pos gpos : Pos} {scope : Scope} {pb : Nat → Bool} {k i : Nat} (hr : Room k X.A) (hg : Gl X "all") (hm : X.mg "all" = none) (hb : bootBuiltins "all" = some (.builtin "all")) (TB : TabB X.base X.mg c P) (hcode : X.env.code = .ref c)
    (S0 : GenT X.env.scope scope x) (hi : PE X iter (tVar i)) (hel : GxR.EltP X.prog X.w scope x elt pb) (hs : ∀ v, genFold iter X.env v = pure v)
    (he : starEach [.GeneratorExp elt [⟨.Name x px, iter, [], 0⟩] scope gpos] X.env = (false, eval (.GeneratorExp elt [⟨.Name x px, iter, [], 0⟩] scope gpos) X.env) :: starEach [] X.env := by rfl) :
    PE X (.Call (.Name "all" p) [.GeneratorExp elt [⟨.Name x px, iter, [], 0⟩] scope gpos] [] pos) (tAllV P pb i) := by
  refine ⟨fun pins s σ H Q I ⟨a, hσ, hP, q⟩ => ?_⟩
  obtain ⟨ps, ht, J⟩ := inv_out I hP
  refine thn ((GxR.pe_allS hr hg hm hb TB hcode (S0.gs I.ok) hi hel hs he).run pins s σ (upd H P (.tbl ps)) (fun v H2 => v = .bl (a.cps.toList.all pb) ∧ GxR.Tabbed P (upd H P (.tbl ps)) H2) J ⟨.str a, hσ, a, rfl, ⟨ps, upd_same, ht⟩, fun H2 hT => ⟨rfl, hT⟩⟩) fun u s1 ⟨v, H2, J2, rv, e, hT⟩ => ?_
  exact ⟨v, H, inv_back I hP hT J2, rv, by rw [e]; exact q⟩
theorem pe_anyV {c P : Addr} {elt iter : Expr} {x : Str} {px p pos gpos : Pos} {scope : Scope} {pb : Nat → Bool} {k i : Nat} (hr : Room k X.A) (hg : Gl X "any") (hm : X.mg "any" = none) (TB : TabB X.base X.mg c P) (hcode : X.env.code = .ref c)
    (S0 : GenT X.env.scope scope x) (hi : PE X iter (tVar i)) (hel : GxR.EltP X.prog X.w scope x elt pb) (hs : ∀ v, genFold iter X.env v = pure v)
    (he : starEach [.GeneratorExp elt [⟨.Name x px, iter, [], 0⟩] scope gpos] X.env = (false, eval (.GeneratorExp elt [⟨.Name x px, iter, [], 0⟩] scope gpos) X.env) :: starEach [] X.env := by rfl) :
    PE X (.Call (.Name "any" p) [.GeneratorExp elt [⟨.Name x px, iter, [], 0⟩] scope gpos] [] pos) (tAnyV P pb i) := by
  refine ⟨fun pins s σ H Q I ⟨a, hσ, hP, q⟩ => ?_⟩
  obtain ⟨ps, ht, J⟩ := inv_out I hP
  refine thn ((GxR.pe_anyS hr hg hm TB hcode (S0.gs I.ok) hi hel hs he).run pins s σ (upd H P (.tbl ps)) (fun v H2 => v = .bl (a.cps.toList.any pb) ∧ GxR.Tabbed P (upd H P (.tbl ps)) H2) J ⟨.str a, hσ, a, rfl, ⟨ps, upd_same, ht⟩, fun H2 hT => ⟨rfl, hT⟩⟩) fun u s1 ⟨v, H2, J2, rv, e, hT⟩ => ?_
  exact ⟨v, H, inv_back I hP hT J2, rv, by rw [e]; exact q⟩
end
/-- 'k' <= x <= 'l' -/
theorem elt_between {prog : Program} {w : World} {scope : Scope} {x k l : Str} {j j' : Nat} {p1 p2 p3 p4 : Pos} (hk : scope.kind = .function) (hl : scope.names.lookup x = some .local) (hd : (x == ("__debug__" : Str)) = false := by decide) :
    GxR.EltP prog w scope x (.Compare (.Constant (.str k) j p1) [.LtE, .LtE] [.Name x p2, .Constant (.str l) j' p3] p4) (fun c => !decide ([c] < k.cps.toList) && !decide (l.cps.toList < [c])) := by
  intro cenv A' E' c t s₂ m₂ hs hn hm
  refine Compare_chain (Calls.Constant_str (chain_link ?_)) (by with_unfolding_all rfl)
  refine wpAny_Name (wpAny_loadName_local (by rw [hs]; exact hk) (show cenv.scope.names.lookup x = some .local by rw [hs]; exact hl) hn hm ?_) hd
  refine PySem.P.le_str ?_
  refine wpAny_truthy_bool ?_
  cases hc : !decide ([c] < k.cps.toList) with
  | false =>
    refine ite_ff ?_
    refine ⟨?_, GxR.keeps_tok _ _⟩
    show Value.bool false = Value.bool (!decide ([c] < k.cps.toList) && !decide (l.cps.toList < [c]))
    rw [hc, Bool.false_and]
  | true =>
    refine ite_tt (chain_last (Calls.Constant_str ?_))
    refine PySem.P.le_str ⟨?_, keeps_tok (GxR.keeps_tok _ _) (GxR.keeps_tok _ _)⟩
    show _ = Value.bool (!decide ([c] < k.cps.toList) && !decide (l.cps.toList < [c]))
    rw [hc, Bool.true_and]
end Rg
/-! names.py: letters, names, names of a call's own, figures -/
namespace Rs
open PySem PySem.Spec PyProof.Rows L2 C8
/-- the defs with a generator expression -/
def gens : List Str := ["is_letters", "is_figures", "is_known", "is_early", "settled_first", "is_head", "come"]
/-- their tables, whatever they have grown to -/
def Tabs (K : PySem.W.Frag) (H : Hp) : Prop := ∀ x ∈ gens, H (tabAt K x) = some (Rg.TabO (tabAt K x))
theorem Tabs.same {K : PySem.W.Frag} {H H' : Hp} (t : Tabs K H) (s : Same H H') : Tabs K H' := fun x hx => s _ _ (t x hx)
theorem in_strs {a : Str} : ∀ l : List Str, inV (V.str a) (l.map V.str) = decide (a ∈ l)
  | [] => by simp [inV]
  | b :: r => by
    have ih := in_strs (a := a) r
    unfold inV at ih ⊢
    rw [List.map_cons, List.any_cons, ih]
    show ((b == a) || decide (a ∈ r)) = _
    by_cases q : b = a
    · subst q; simp
    · have : a ≠ b := Ne.symm q
      simp [q, this]
section
variable {P : Program} {w : World} {K : PySem.W.Frag} {mg : Str → Option Value} {base : Heap}
def spLetters (K : PySem.W.Frag) : Sp := fun vs H Q _ => ∃ (a : Str) (m : Int), vs = [.str a, .int m] ∧ a.length ≤ sizeLine ∧ Tabs K H ∧ Q (.bl (isLetters a m)) H
theorem ok_is_letters (D : DefAt K mg "is_letters" sD_is_letters) (T : Txt w K mg) (TB : Rg.TabB base mg (He.codeOf K ("is_letters", none)) (tabAt K "is_letters")) : Cal P w K mg base 1 "is_letters" (spLetters K) [] := by
  refine calT_of D sc_is_letters (fun _ _ _ _ _ _ us hl => match us, hl with | [_, _], _ => rfl) (fun vs H Q E h => ?_) (fun Ar outer s H vs Q E hr h => ?_)
  · obtain ⟨a, m, rfl, _⟩ := h
    rfl
  · obtain ⟨a, m, rfl, hz, hT, k⟩ := h
    have hcd : (cxOf L2.CX0 P w K mg base N_is_letters "is_letters" (defScope sD_is_letters) (He.ga K "is_letters") (.ref (He.codeOf K ("is_letters", none))) Ar outer s H E).nox.env.code = .ref (He.codeOf K ("is_letters", none)) := rfl
    refine ⟨_, (pss_one (ps_ret (pe_and (pe_chain op_le op_le pe_int (pe_callB call_len_str (by rfl) T.free_len (by decide +kernel) (pa_cons (pv 0) pa_nil)) (pv 1)) (pe_one (Rg.pe_allV hr (by rfl) T.free_all (by decide +kernel) TB hcd (Rg.genT_by (sc := defScope sD_is_letters) (by decide +kernel)) (pv 0) (Rg.elt_between rfl rfl) (fun _ => rfl)))))), ?_⟩
    refine ⟨_, rfl, a, rfl, hz, _, _, rfl, rfl, _, rfl, ?_⟩
    unfold isLetters at k
    by_cases h0 : 1 ≤ (a.length : Int)
    · rw [decide_eq_true h0]
      refine iteT ⟨_, rfl, _, _, rfl, rfl, _, rfl, ?_⟩
      by_cases h1 : (a.length : Int) ≤ m
      · rw [decide_eq_true h1]
        rw [decide_eq_true ⟨h0, h1⟩, Bool.true_and] at k
        exact iteT ⟨a, rfl, hT _ (by decide), k⟩
      · rw [decide_eq_false h1]
        rw [decide_eq_false (fun z => h1 z.2), Bool.false_and] at k
        exact iteF k
    · rw [decide_eq_false h0]
      rw [decide_eq_false (fun z => h0 z.1), Bool.false_and] at k
      exact iteF ⟨_, rfl, iteF k⟩
def spName (K : PySem.W.Frag) : Sp := fun vs H Q _ => ∃ a : Str, vs = [.str a] ∧ a.length ≤ sizeLine ∧ Tabs K H ∧ Q (.bl (isName a)) H
theorem ok_is_name (D : DefAt K mg "is_name" sD_is_name) (T : Txt w K mg) (c_is_letters : Cal P w K mg base 1 "is_letters" (spLetters K) []) : Cal P w K mg base 2 "is_name" (spName K) [] := by
  refine cal_of D sc_is_name (fun _ _ _ _ _ _ us hl => match us, hl with | [_], _ => rfl) (fun vs H Q E h => ?_) (fun cdv A outer s H vs Q E hr h => ?_)
  · obtain ⟨a, rfl, _⟩ := h
    rfl
  · obtain ⟨a, rfl, hz, hT, k⟩ := h
    refine ⟨_, (pss_one (ps_ret (pe_and (pe_c c_is_letters hr (by decide) (by rfl) (pa_cons (pv 0) (pa_cons (pe_gI (by rfl) T.g_NAME_MOST) pa_nil))) (pe_and (pe_cmpR op_notInK (pv 0) (pe_gR (by rfl) T.g_OPS) (by rfl)) (pe_one (pe_cmpR op_notIn_seq (pv 0) (pe_gR (by rfl) T.g_KEPT) (by rfl))))))), ?_⟩
    refine ⟨_, rfl, a, 8, rfl, hz, hT, _, rfl, ?_⟩
    unfold isName at k
    cases e : isLetters a 8 with
    | false =>
      rw [e, Bool.false_and] at k
      exact iteF k
    | true =>
      rw [e, Bool.true_and] at k
      refine iteT ⟨_, rfl, a, _, opKeys, rfl, rfl, T.tab, _, rfl, ?_⟩
      cases e1 : decide (a ∈ opKeys) with
      | true =>
        rw [e1] at k
        exact iteF k
      | false =>
        rw [e1] at k
        refine iteT ?_
        refine ⟨_, rfl, _, _, rfl, .inr (T.t_KEPT _), rfl, rfl, ?_⟩
        rw [if_pos rfl, show inV (V.str a) [.str "take", .str "at", .str "word", .str "room", .str "is", .str "macro", .str "end", .str "here"] = decide (a ∈ kept) from in_strs kept]
        exact k
def spOwn (K : PySem.W.Frag) : Sp := fun vs H Q _ => ∃ a : Str, vs = [.str a] ∧ a.length ≤ sizeLine ∧ Tabs K H ∧ Q (.bl (isOwn a)) H
theorem ok_is_own_name (D : DefAt K mg "is_own_name" sD_is_own_name) (T : Txt w K mg) (c_is_letters : Cal P w K mg base 1 "is_letters" (spLetters K) []) : Cal P w K mg base 2 "is_own_name" (spOwn K) [] := by
  refine cal_of D sc_is_own_name (fun _ _ _ _ _ _ us hl => match us, hl with | [_], _ => rfl) (fun vs H Q E h => ?_) (fun cdv A outer s H vs Q E hr h => ?_)
  · obtain ⟨a, rfl, _⟩ := h
    rfl
  · obtain ⟨a, rfl, hz, hT, k⟩ := h
    refine ⟨_, (pss_one (ps_ret (pe_and (pe_bm PySem.F.plainAttrs_str PySem.F.slot_str_startswith PySem.F.type_str_startswith mt_startswith (pv 0) (pa_cons pe_str pa_nil)) (pe_one (pe_c c_is_letters hr (by decide) (by rfl) (pa_cons (pe_slice sl_txt (pv 0) (po_some pe_int) po_none) (pa_cons (pe_op op_sub (pe_gI (by rfl) T.g_NAME_MOST) pe_int) pa_nil))))))), ?_⟩
    refine ⟨_, rfl, (rfl : ("str" : String) = "str"), a, _, rfl, rfl, _, rfl, ?_⟩
    unfold isOwn at k
    cases e : Txt.startswith a "@" with
    | false =>
      rw [e, Bool.false_and] at k
      exact iteF k
    | true =>
      rw [e, Bool.true_and] at k
      refine iteT ⟨_, rfl, _, rfl, a, rfl, hz, _, _, rfl, rfl, Txt.slice a (some 1) none, 7, rfl, ?_, hT, k⟩
      rw [← cutS_slice]
      exact Nat.le_trans (cutS_length _ _ _) hz
def spFigures (K : PySem.W.Frag) : Sp := fun vs H Q _ => ∃ a : Str, vs = [.str a] ∧ a.length ≤ sizeLine ∧ Tabs K H ∧ Q (.bl (isFigures a)) H
theorem ok_is_figures (D : DefAt K mg "is_figures" sD_is_figures) (T : Txt w K mg) (TB : Rg.TabB base mg (He.codeOf K ("is_figures", none)) (tabAt K "is_figures")) : Cal P w K mg base 1 "is_figures" (spFigures K) [] := by
  refine calT_of D sc_is_figures (fun _ _ _ _ _ _ us hl => match us, hl with | [_], _ => rfl) (fun vs H Q E h => ?_) (fun Ar outer s H vs Q E hr h => ?_)
  · obtain ⟨a, rfl, _⟩ := h
    rfl
  · obtain ⟨a, rfl, hz, hT, k⟩ := h
    have hcd : (cxOf L2.CX0 P w K mg base N_is_figures "is_figures" (defScope sD_is_figures) (He.ga K "is_figures") (.ref (He.codeOf K ("is_figures", none))) Ar outer s H E).nox.env.code = .ref (He.codeOf K ("is_figures", none)) := rfl
    refine ⟨_, (pss_cons (ps_if (pt_not (pt_chain op_le op_le pe_int (pe_callB call_len_str (by rfl) T.free_len (by decide +kernel) (pa_cons (pv 0) pa_nil)) (pe_gI (by rfl) T.g_FIGURES_MOST)))
   (pss_one (ps_ret pe_bl))
   pss_nil)
  (pss_cons (ps_if (PW.pt (pw_and (pt_val (pe_bm PySem.F.plainAttrs_str PySem.F.slot_str_startswith PySem.F.type_str_startswith mt_startswith (pv 0) (pa_cons pe_str pa_nil))) (pw_and1 (pt_cmpR op_ne (pv 0) pe_str (nomark _)))))
   (pss_one (ps_ret pe_bl))
   pss_nil)
  (pss_one (ps_ret (Rg.pe_allV hr (by rfl) T.free_all (by decide +kernel) TB hcd (Rg.genT_by (sc := defScope sD_is_figures) (by decide +kernel)) (pv 0) (Rg.elt_between rfl rfl) (fun _ => rfl)))))), ?_⟩
    refine ⟨_, rfl, a, rfl, hz, _, _, rfl, rfl, _, rfl, ?_⟩
    unfold isFigures at k
    by_cases h0 : 1 ≤ (a.length : Int)
    · rw [decide_eq_true h0]
      refine iteT ⟨_, _, rfl, rfl, _, rfl, ?_⟩
      by_cases h1 : (a.length : Int) ≤ 4
      · rw [decide_eq_true h1]
        rw [decide_eq_true ⟨h0, h1⟩, Bool.true_and] at k
        refine iteF ?_
        have fin : ∀ (kk : Q (.bl (a.cps.toList.all (between "0" "9"))) H), Rg.tAllV (tabAt K "is_figures") (fun c => !decide ([c] < ("0" : Str).cps.toList) && !decide (("9" : Str).cps.toList < [c])) 0 (start N_is_figures [V.str a]) H Q := fun kk => ⟨a, rfl, hT _ (by decide), kk⟩
        refine ⟨_, rfl, (rfl : ("str" : String) = "str"), a, _, rfl, rfl, _, rfl, ?_⟩
        cases e : Txt.startswith a "0" with
        | false =>
          rw [e, Bool.false_and, Bool.not_false, Bool.true_and] at k
          exact iteF (iteF (fin k))
        | true =>
          rw [e, Bool.true_and] at k
          refine iteT ⟨_, rfl, rfl, _, rfl, ?_⟩
          by_cases q : a = "0"
          · rw [decide_eq_true q, Bool.not_true, Bool.not_false, Bool.true_and] at k
            rw [decide_eq_true (congrArg V.str q)]
            exact iteF (fin k)
          · rw [decide_eq_false q, Bool.not_false, Bool.not_true, Bool.false_and] at k
            rw [decide_eq_false (fun z => q (V.str.inj z))]
            exact iteT k
      · rw [decide_eq_false h1]
        rw [decide_eq_false (fun z => h1 z.2), Bool.false_and] at k
        exact iteT k
    · rw [decide_eq_false h0]
      rw [decide_eq_false (fun z => h0 z.1), Bool.false_and] at k
      exact iteF ⟨_, rfl, iteT k⟩
end
end Rs
namespace Rs
open PySem PySem.Spec PyProof.Rows L2 C8
section
variable {P : Program} {w : World} {K : PySem.W.Frag} {mg : Str → Option Value} {base : Heap}
def spWhole : Sp := fun vs H Q _ => ∃ n m : Int, vs = [.int n, .int m] ∧ Q (.bl (decide (0 ≤ n ∧ n ≤ m))) H
theorem ok_is_whole (D : DefAt K mg "is_whole" sD_is_whole) (T : Txt w K mg) : Cal P w K mg base 1 "is_whole" spWhole [] := by
  refine cal_of D sc_is_whole (fun _ _ _ _ _ _ us hl => match us, hl with | [_, _], _ => rfl) (fun vs H Q E h => ?_) (fun cdv A outer s H vs Q E hr h => ?_)
  · obtain ⟨n, m, rfl, _⟩ := h
    rfl
  · obtain ⟨n, m, rfl, k⟩ := h
    refine ⟨_, (pss_one (ps_ret (pe_and (pe_callB call_isi (by rfl) T.free_isinstance (by decide +kernel) (pa_cons (pv 0) (pa_cons (pe_bltn (by rfl) T.free_int (by decide +kernel) (v := .ty "int") rfl) pa_nil))) (pe_and (pe_not (pe_callB call_isi (by rfl) T.free_isinstance (by decide +kernel) (pa_cons (pv 0) (pa_cons (pe_bltn (by rfl) T.free_bool (by decide +kernel) (v := .ty "bool") rfl) pa_nil)))) (pe_one (pe_chain op_le op_le pe_int (pv 0) (pv 1))))))), ?_⟩
    refine ⟨_, rfl, _, _, _, _, true, rfl, .ty _, .base (.int _), kit_ty (by decide +kernel), true, rfl, iteT ?_⟩
    refine ⟨_, rfl, _, _, _, _, false, rfl, .ty _, .base (.int _), kit_ty (by decide +kernel), false, rfl, true, rfl, iteT ?_⟩
    refine ⟨_, rfl, _, _, rfl, rfl, _, rfl, ?_⟩
    by_cases h0 : 0 ≤ n
    · rw [decide_eq_true h0]
      refine iteT ⟨_, rfl, _, _, rfl, rfl, ?_⟩
      have e : decide (0 ≤ n ∧ n ≤ m) = decide (n ≤ m) := by simp [h0]
      rw [e] at k
      exact k
    · rw [decide_eq_false h0]
      refine iteF ?_
      have e : decide (0 ≤ n ∧ n ≤ m) = false := by simp [h0]
      rw [e] at k
      exact k
def spSigned : Sp := fun vs H Q _ => ∃ n : Int, vs = [.int n] ∧ Q (.int (if n < 128 then n else n - 256)) H
theorem ok_signed (D : DefAt K mg "signed" sD_signed) : Cal P w K mg base 1 "signed" spSigned [] := by
  refine cal_of D sc_signed (fun _ _ _ _ _ _ us hl => match us, hl with | [_], _ => rfl) (fun vs H Q E h => ?_) (fun cdv A outer s H vs Q E hr h => ?_)
  · obtain ⟨n, rfl, _⟩ := h
    rfl
  · obtain ⟨n, rfl, k⟩ := h
    refine ⟨_, (pss_one (ps_ret (pe_ifExp (pt_cmpR op_lt (pv 0) pe_int (nomark _)) (pv 0) (pe_op op_sub (pv 0) pe_int)))), ?_⟩
    refine ⟨_, rfl, _, _, rfl, rfl, _, rfl, ?_⟩
    by_cases h0 : n < 128
    · rw [decide_eq_true h0]
      rw [if_pos h0] at k
      exact iteT ⟨_, rfl, k⟩
    · rw [decide_eq_false h0]
      rw [if_neg h0] at k
      exact iteF ⟨_, rfl, _, _, rfl, rfl, k⟩
def spSize : Sp := fun vs H Q _ => ∃ k : Kd, vs = [.str k.str] ∧ Q (.int (rSize k : Nat)) H
theorem code_of : ∀ k : Kd, k ≠ .take → ∃ c ∈ codes, c.1 = k ∧ rSize k = 1 + c.2.2.2 := by
  intro k h
  cases k <;> first | exact absurd rfl h | decide
theorem str_take : ∀ k : Kd, k ≠ .take → ¬ (k.str = ("take" : Str)) := by
  intro k h
  cases k <;> first | exact absurd rfl h | decide +kernel
theorem ok_row_size (D : DefAt K mg "row_size" sD_row_size) (T : Txt w K mg) : Cal P w K mg base 1 "row_size" spSize [] := by
  refine cal_of D sc_row_size (fun _ _ _ _ _ _ us hl => match us, hl with | [_], _ => rfl) (fun vs H Q E h => ?_) (fun cdv A outer s H vs Q E hr h => ?_)
  · obtain ⟨n, rfl, _⟩ := h
    rfl
  · obtain ⟨d, rfl, k⟩ := h
    refine ⟨_, (pss_one (ps_ret (pe_ifExp (pt_cmpR op_eq (pv 0) pe_str (nomark _)) pe_int (pe_op op_add pe_int (pe_ix ix_tup (pe_ix ix_kdict (pe_gR (by rfl) T.g_OPS) (pv 0) (fun _ _ => rfl)) pe_int (fun _ _ => rfl)))))), ?_⟩
    refine ⟨_, rfl, rfl, _, rfl, ?_⟩
    by_cases hd : d = .take
    · subst hd
      refine ite2 (fun _ => k) (fun q => absurd (decide_eq_true rfl) q)
    · refine ite2 (fun q => absurd (V.str.inj (of_decide_eq_true q)) (str_take d hd)) (fun _ => ?_)
      obtain ⟨c, cm, rfl, ce⟩ := code_of d hd
      obtain ⟨a, ha, hT⟩ := T.ops c cm
      refine ⟨_, rfl, _, _, _, rfl, rfl, ha, _, _, _, _, rfl, rfl, hT _, atI_nat (j := 2) rfl, _, _, rfl, rfl, ?_⟩
      rw [ce] at k
      have e : ((1 + c.2.2.2 : Nat) : Int) = 1 + (c.2.2.2 : Int) := by omega
      rw [e] at k
      exact k
end
end Rs
namespace Rs
open PySem PySem.Spec PyProof.Rows L2 C8
theorem findC_cons (c : Code) (r : List Code) (n : Int) : findC (c :: r) n = if c.2.1 ≤ n ∧ n < c.2.1 + span c.2.2.1 then some c else findC r n := rfl
abbrev il (ws : List Int) : List V := ws.map V.int
theorem ints_get {ws : List Int} {i : Nat} {x : V} (h : (il ws)[i]? = some x) : i < ws.length ∧ x = V.int (ws.getD i 0) := by
  rw [List.getElem?_map] at h
  cases e : ws[i]? with
  | none =>
    rw [e] at h
    cases h
  | some u =>
    rw [e] at h
    obtain ⟨hi, _⟩ := List.getElem?_eq_some_iff.mp e
    refine ⟨hi, ?_⟩
    rw [List.getD_eq_getElem?_getD, e]
    exact (Option.some.inj h).symm
theorem ints_at {ws : List Int} {i : Nat} (h : i < ws.length) : (il ws)[i]? = some (V.int (ws.getD i 0)) := by
  rw [List.getElem?_map, List.getD_eq_getElem?_getD, List.getElem?_eq_getElem h]
  rfl
theorem ints_atI {ws : List Int} {p : Int} (h0 : 0 ≤ p) (h : p < (ws.length : Int)) : atI (il ws) p = some (V.int (ws.getD p.toNat 0)) := by
  have e : p = ((p.toNat : Nat) : Int) := by omega
  rw [e]
  have := atI_nat (ints_at (ws := ws) (i := p.toNat) (by omega))
  exact this
theorem _root_.L2.Same.new {H : Hp} {p : Addr} {o : HO} (h : H p = none) : Same H (upd H p o) := fun b u e => by rw [upd_ne (ne_of_none e h)]; exact e
theorem _root_.L2.Same.add {H H' : Hp} {p : Addr} {o : HO} (s : Same H H') (h : H' p = none) : Same H (upd H' p o) := s.trans (Same.new h)
theorem _root_.L2.Same.putNew {H H' : Hp} {p : Addr} {o : HO} (s : Same H H') (h : H p = none) : Same H (upd H' p o) := fun b u e => by rw [upd_ne (ne_of_none e h)]; exact s _ _ e
theorem _root_.L2.Same.tup {K : PySem.W.Frag} {H H' : Hp} {a : Addr} {xs : List V} (e : Same H H') (h : SqT K H a xs) : SqT K H' a xs := by
  rcases h with (h | ⟨o, h⟩) | h
  · exact .inl (.inl (e _ _ h))
  · exact .inl (.inr ⟨o, e _ _ h⟩)
  · exact .inr h
section
variable {P : Program} {w : World} {K : PySem.W.Frag} {mg : Str → Option Value} {base : Heap}
def Bytes (ws : List Int) : Prop := ∀ x ∈ ws, Byte x
def spCheckW (K : PySem.W.Frag) : Sp := fun vs H Q _ => ∃ (a : Addr) (ws : List Int), vs = [.ref a] ∧ SqL K H a (il ws) ∧ ws.length ≤ 256 ∧ Bytes ws ∧ ∀ H', Same H H' → Q .non H'
theorem ok_check_words (D : DefAt K mg "check_words" sD_check_words) (T : Txt w K mg) (c_is_whole : Cal P w K mg base 1 "is_whole" spWhole []) : Cal P w K mg base 2 "check_words" (spCheckW K) [] := by
  refine cal_of D sc_check_words (fun _ _ _ _ _ _ us hl => match us, hl with | [_], _ => rfl) (fun vs H Q E h => ?_) (fun cdv A outer s H vs Q E hr h => ?_)
  · obtain ⟨a, ws, rfl, _⟩ := h
    rfl
  · obtain ⟨a, ws, rfl, hS, hl, hb, k⟩ := h
    refine ⟨_, (pss_one (ps_for PassesOwn.never rfl (pi_enum (by rfl) T.free_enumerate (pa_cons (pv 0) pa_nil)) (pg_tup rfl (pgs_cons (pg_name (i := 1) sc_check_words.nd rfl (Or.inl rfl)) (pgs_cons (pg_name (i := 2) sc_check_words.nd rfl (Or.inl rfl)) pgs_nil)))
   (pss_one (ps_if (PW.pt (pw_or (pt_cmpR op_ge (pv 1) (pe_gI (by rfl) T.g_WORDS_MOST) (nomark _)) (pw_or1 (pt_not (pt_val (pe_c c_is_whole hr (by decide) (by rfl) (pa_cons (pv 2) (pa_cons (pe_gI (by rfl) T.g_WORD_MOST) pa_nil))))))))
   (pss_one ps_never)
   pss_nil)))), ?_⟩
    refine ⟨_, rfl, a, _, rfl, hS, for_it (walk_enum (K := K) (a := a) (xs := il ws)) (fun i σ H' => Same H H' ∧ ∃ x y, σ = [some (.ref a), x, y]) ⟨Same.refl _, _, _, rfl⟩ (fun i σ H' _ ⟨s, _⟩ => s.seq hS) ?_ (fun σ H' ⟨s, _⟩ => k _ s)⟩
    rintro i v σ H1 H2 hi ⟨s1, x, y, rfl⟩ ⟨T', x1, y1, rfl, hn, rfl, e1, e2⟩
    cases e1
    obtain ⟨hi2, rfl⟩ := ints_get e2
    have hby := hb _ (getD_mem hi2)
    refine ⟨T', _, rfl, SqT.of upd_same, rfl, _, _, rfl, _, _, rfl, rfl, ?_⟩
    refine ⟨_, rfl, _, _, rfl, rfl, _, rfl, ?_⟩
    have e0 : decide ((256 : Int) ≤ ((i : Nat) : Int)) = false := decide_eq_false (by omega)
    rw [e0]
    refine iteF ?_
    refine ⟨_, rfl, _, _, rfl, _, rfl, ?_⟩
    have e3 : decide (0 ≤ ws.getD i 0 ∧ ws.getD i 0 ≤ 255) = true := decide_eq_true ⟨hby.1, by have := hby.2; omega⟩
    rw [e3]
    exact iteF ⟨s1.add hn, _, _, rfl⟩
def spCheckB : Sp := fun vs H Q _ => ∃ n : Int, vs = [.int n] ∧ 0 ≤ n ∧ n ≤ 255 ∧ Q .non H
def spCheckM : Sp := fun vs H Q _ => ∃ n : Int, vs = [.int n] ∧ 0 ≤ n ∧ n ≤ 1000 ∧ Q .non H
def opOf (w : Int) : Option Kd := if 144 ≤ w ∧ w < 176 then some .take else (findC codes w).map (·.1)
def spOpOf : Sp := fun vs H Q _ => ∃ n : Int, vs = [.int n] ∧ Q (match opOf n with | none => .non | some k => .str k.str) H
theorem span_at : ∀ c ∈ codes, ([V.int 1, V.int 4, V.int 16] : List V)[c.2.2.1]? = some (V.int (span c.2.2.1)) := by decide
theorem ok_op_of (D : DefAt K mg "op_of" sD_op_of) (T : Txt w K mg) : Cal P w K mg base 1 "op_of" spOpOf [] := by
  refine cal_of D sc_op_of (fun _ _ _ _ _ _ us hl => match us, hl with | [_], _ => rfl) (fun vs H Q E h => ?_) (fun cdv A outer s H vs Q E hr h => ?_)
  · obtain ⟨n, rfl, _⟩ := h
    rfl
  · obtain ⟨n, rfl, k⟩ := h
    refine ⟨_, (pss_cut (ps_if (pt_chain op_le op_lt (pe_gI (by rfl) T.g_TAKE_FIRST) (pv 0) (pe_op op_add (pe_gI (by rfl) T.g_TAKE_FIRST) (pe_gI (by rfl) T.g_TAKE_SPAN)))
   (pss_one (ps_ret pe_str))
   pss_nil)
  (pss_cons (ps_for PassesOwn.never rfl (pi_keysK (pe_gR (by rfl) T.g_OPS)) (pg_name (i := 1) sc_op_of.nd rfl (Or.inl rfl))
   (pss_cons (ps_asg (pe_ix ix_kdict (pe_gR (by rfl) T.g_OPS) (pv 1) (fun _ _ => rfl)) (pg_tup rfl (pgs_cons (pg_name (i := 2) sc_op_of.nd rfl (Or.inl rfl)) (pgs_cons (pg_name (i := 3) sc_op_of.nd rfl (Or.inl rfl)) (pgs_cons (pg_name (i := 4) sc_op_of.nd rfl (Or.inl rfl)) pgs_nil)))))
  (pss_one (ps_if (pt_chain op_le op_lt (pv 2) (pv 0) (pe_op op_add (pv 2) (pe_ix ix_tup (pe_gR (by rfl) T.g_SPANS) (pv 3) (fun _ _ => rfl))))
   (pss_one (ps_ret (pv 1)))
   pss_nil))))
  (pss_one (ps_ret pe_non)))), ?_⟩
    refine ⟨fun σ' H' => σ' = start N_op_of [.int n] ∧ H' = H ∧ ¬ (144 ≤ n ∧ n < 176), ?_, ?_⟩
    · refine ⟨_, rfl, _, _, rfl, rfl, _, rfl, ?_⟩
      by_cases h1 : 144 ≤ n
      · rw [decide_eq_true h1]
        refine iteT ⟨_, _, rfl, rfl, _, _, rfl, rfl, _, rfl, ?_⟩
        by_cases h2 : n < 144 + 32
        · rw [decide_eq_true h2]
          refine iteT ?_
          have e : opOf n = some .take := if_pos ⟨h1, by omega⟩
          rw [e] at k
          exact k
        · rw [decide_eq_false h2]
          exact iteF ⟨rfl, rfl, by omega⟩
      · rw [decide_eq_false h1]
        exact iteF ⟨_, rfl, iteF ⟨rfl, rfl, by omega⟩⟩
    · rintro σ' H' ⟨rfl, rfl, hn⟩
      have eo : opOf n = (findC codes n).map (·.1) := if_neg hn
      rw [eo] at k
      refine ⟨_, _, rfl, T.tab, for_keysK (fun i σ H1 => H1 = H' ∧ findC (codes.drop i) n = findC codes n ∧ ∃ x y z u, σ = [some (.int n), x, y, z, u]) ⟨rfl, rfl, _, _, _, _, rfl⟩ ?_ ?_⟩
      · rintro i op σ H1 hop ⟨rfl, hf, x, y, z, u, rfl⟩
        rw [List.getElem?_map] at hop
        cases ec : codes[i]? with
        | none =>
          rw [ec] at hop
          cases hop
        | some c =>
          rw [ec] at hop
          cases hop
          have cm : c ∈ codes := List.mem_of_getElem? ec
          obtain ⟨hi, ei⟩ := List.getElem?_eq_some_iff.mp ec
          obtain ⟨a, ha, hT⟩ := T.ops c cm
          rw [List.drop_eq_getElem_cons hi, ei] at hf
          rw [findC_cons] at hf
          refine ⟨_, rfl, _, _, _, rfl, rfl, ha, a, _, rfl, hT _, rfl, _, _, rfl, _, _, rfl, _, _, rfl, rfl, ?_⟩
          refine ⟨_, rfl, _, rfl, _, _, rfl, rfl, _, rfl, ?_⟩
          by_cases h1 : c.2.1 ≤ n
          · rw [decide_eq_true h1]
            refine iteT ⟨_, rfl, _, rfl, _, _, _, _, rfl, rfl, T.t_SPANS _, atI_nat (span_at c cm), _, _, rfl, rfl, _, _, rfl, rfl, _, rfl, ?_⟩
            by_cases h2 : n < c.2.1 + span c.2.2.1
            · rw [decide_eq_true h2]
              refine iteT ⟨_, rfl, ?_⟩
              rw [if_pos ⟨h1, h2⟩] at hf
              rw [← hf] at k
              exact k
            · rw [decide_eq_false h2]
              rw [if_neg (fun q => h2 q.2)] at hf
              exact iteF ⟨rfl, hf, _, _, _, _, rfl⟩
          · rw [decide_eq_false h1]
            rw [if_neg (fun q => h1 q.1)] at hf
            exact iteF ⟨_, rfl, iteF ⟨rfl, hf, _, _, _, _, rfl⟩⟩
      · rintro σ H1 ⟨rfl, hf, x, y, z, u, rfl⟩
        have e0 : codes.drop (codes.map fun c => c.1.str).length = [] := by rw [List.length_map]; exact List.drop_length
        rw [e0] at hf
        rw [← hf] at k
        exact k
end
end Rs
/-! lists of pairs of ints: min, remove; sorted of a dict with int keys, any number of them -/
namespace Rg
open PySem PySem.Spec PyProof.Rows L2
abbrev Pt := Int × Int
/-- tuples of two ints at ts -/
def PrsAt (H : Hp) (ts : List Addr) (L : List Pt) : Prop := ts.length = L.length ∧ ∀ (i : Nat) (t : Addr) (e : Pt), ts[i]? = some t → L[i]? = some e → H t = some (.tup [.int e.1, .int e.2])
theorem vals_refs : ∀ {ts : List Addr} {us : List Value}, Vals (ts.map V.ref) us → us = ts.map Value.ref
  | [], _, .nil => rfl
  | t :: ts, _, .cons r q => by
    rw [show (_ : Value) = Value.ref t from r, vals_refs q]
    rfl
section
variable {Pg : Program} {w : World} {H : Hp} {h : Heap}
theorem holds_of {t : Addr} {e : Pt} (ok : HOk Pg w H h) (ht : H t = some (.tup [.int e.1, .int e.2])) : PySem.W.Holds h (.ref t) e := by
  obtain ⟨_, its, r, o, ho, hc, n, hd⟩ := ok t _ ht
  obtain ⟨u1, u2, rfl, ri, rj⟩ := vals2 r
  obtain ⟨t1, rfl⟩ := ri
  obtain ⟨t2, rfl⟩ := rj
  exact PySem.W.holds_pair (x := e.1) (y := e.2) ⟨o, ho, hc, n, hd⟩ (PySem.W.holds_int _ _) (PySem.W.holds_int _ _)
theorem holdAll_of (ok : HOk Pg w H h) : ∀ {ts : List Addr} {L : List Pt}, PrsAt H ts L → PySem.W.HoldAll h (ts.map Value.ref) L
  | [], [], _ => PySem.W.HoldAll.nil
  | [], b :: s, p => by cases p.1
  | a :: r, [], p => by cases p.1
  | a :: r, b :: s, p => PySem.W.HoldAll.cons (holds_of ok (p.2 0 a b rfl rfl)) (holdAll_of ok ⟨by simpa using p.1, fun i t e h1 h2 => p.2 (i + 1) t e h1 h2⟩)
theorem int_holds {v : Value} {i : Int} (x : PySem.W.Holds h v i) : ∃ t, v = .int i t := by
  obtain ⟨as, r⟩ := x
  cases r with
  | int _ t => exact ⟨t, rfl⟩
theorem holds_val {t : Addr} {e m : Pt} (ok : HOk Pg w H h) (ht : H t = some (.tup [.int e.1, .int e.2])) (hm : PySem.W.Holds h (.ref t) m) : e = m := by
  obtain ⟨_, its, r, o, ho, hc, n, hd⟩ := ok t _ ht
  obtain ⟨u1, u2, rfl, ri, rj⟩ := vals2 r
  obtain ⟨t1, rfl⟩ := ri
  obtain ⟨t2, rfl⟩ := rj
  obtain ⟨l, a, b, e1, ⟨o', ho', hc', n', hd'⟩, e2, e3⟩ := PySem.W.pair_of_holds hm
  cases e1
  rw [ho] at ho'
  cases ho'
  rw [hd] at hd'
  obtain ⟨t3, rfl⟩ := int_holds e2
  obtain ⟨t4, rfl⟩ := int_holds e3
  injection hd' with d1 _
  have d2 := congrArg Array.toList d1
  simp at d2
  exact Prod.ext d2.1.1 d2.2.1
end
section
variable {X : Cx}
/-- min(xs), xs a list of pairs of ints: one of the least -/
def rMinP (K : PySem.W.Frag) : List V → Hp → VK → Prop := fun vs H Q => ∃ (a : Addr) (ts : List Addr) (p0 : Pt) (ps : List Pt), vs = [V.ref a] ∧ SqL K H a (ts.map V.ref) ∧ PrsAt H ts (p0 :: ps) ∧
  ∀ (i : Nat) (t : Addr), ts[i]? = some t → (p0 :: ps)[i]? = some (PySem.W.minOf p0 ps) → Q (.ref t) H
theorem cr_minP (hc : X.calm = true) (hu : X.A.units + 2 < cLine) : CallR X (.builtin "min") (rMinP X.K) := by
  intro pins s σ H vs us Q I r h
  obtain ⟨a, ts, p0, ps, rfl, hS, hp, q⟩ := h
  rw [Vals.ref1 r]
  obtain ⟨its, rv, pl, hz⟩ := I.list hS
  obtain rfl := vals_refs rv
  refine PySem.W.min_list_datum (I.ok.hd hc) pl.isList (by simpa using holdAll_of I.hok hp) (by show X.A.units + 1 + 1 < cLine; exact hu) fun i v h' tk hi hm hk => ?_
  have hi2 : (ts.map Value.ref)[i]? = some v := by simpa using hi
  rw [List.getElem?_map] at hi2
  cases et : ts[i]? with
  | none =>
    rw [et] at hi2
    cases hi2
  | some t =>
    rw [et] at hi2
    cases hi2
    have hl : i < (p0 :: ps).length := by
      rw [← hp.1]
      exact (List.getElem?_eq_some_iff.mp et).1
    have I1 : Inv X pins σ H { s with heap := h', toks := tk } := I.kept hk
    have ht := hp.2 i t _ et (List.getElem?_eq_getElem hl)
    have ee := holds_val I1.hok ht hm
    refine ⟨.ref t, H, I1, rfl, q i t et ?_⟩
    rw [List.getElem?_eq_getElem hl, ee]
/-- xs.remove(t), xs a list of pairs of ints, t a pair: the first that is alike -/
def rRemP : V → List V → Hp → VK → Prop := fun x xs H Q => ∃ (l b : Addr) (ts : List Addr) (ps : List Pt) (p : Pt) (j : Nat), x = .ref l ∧ xs = [.ref b] ∧ H l = some (.lst (ts.map V.ref)) ∧ PrsAt H ts ps ∧ H b = some (.tup [.int p.1, .int p.2]) ∧
  ps[j]? = some p ∧ (∀ m, m < j → ps[m]? ≠ some p) ∧ Q .non (upd H l (.lst ((ts.eraseIdx j).map V.ref)))
theorem map_erase {α β : Type} (f : α → β) : ∀ (ns : List α) (j : Nat), (ns.map f).eraseIdx j = (ns.eraseIdx j).map f
  | [], _ => rfl
  | _ :: _, 0 => rfl
  | n :: r, j + 1 => by
    show f n :: (r.map f).eraseIdx j = f n :: (r.eraseIdx j).map f
    rw [map_erase f r j]
theorem mt_remP (hu : X.A.units + 2 < cLine) : MtR X "list.remove" rRemP := by
  intro pins s σ H x xs v us Q I rx rxs h
  obtain ⟨l, b, ts, ps, p, j, rfl, rfl, hl, hp, hb, hj, hno, q⟩ := h
  cases rx
  obtain ⟨u, rfl, ru⟩ := vals1 rxs
  obtain rfl : u = Value.ref b := ru
  obtain ⟨z, its, n, r, hll, e0⟩ := I.lstM hl
  obtain rfl := vals_refs r
  refine PySem.W.remove_list_datum (x := p) (j := j) ⟨_, e0, rfl, n, rfl⟩ (by simpa using holdAll_of I.hok hp) (holds_of I.hok hb) (by show X.A.units + 1 + 1 < cLine; exact hu) hj hno (by rw [List.size_toArray, ← hll]; exact z) ?_
  refine ⟨.non, _, I.lset (its' := (ts.map Value.ref).eraseIdx j) hl e0 ?_ ?_ ?_, rfl, q⟩
  · show (ts.map Value.ref).toArray.eraseIdxIfInBounds j = ((ts.map Value.ref).eraseIdx j).toArray
    rw [List.eraseIdxIfInBounds_toArray]
  · have w := r.eraseIdx j
    rw [map_erase] at w
    exact w
  · rw [List.length_map]
    rw [List.length_map] at z
    have := List.length_eraseIdx_le ts j
    omega
/-- sorted(d), d a dict with int keys, any number of them -/
def rSortedD : List V → Hp → VK → Prop := fun xs H Q => ∃ (a : Addr) (kvs : List (L2.Key × V)) (ks : List Int), xs = [.ref a] ∧ Rd H a (.dK kvs) ∧ kvs.map (·.1) = ks.map Sum.inl ∧
    ∀ (ys : List Int) (p : Addr), ys.Perm ks → ys.Pairwise (· ≤ ·) → H p = none → Q (.ref p) (upd H p (.lst (ys.map V.int)))
theorem cr_sortedD (hcalm : X.calm = true) : CallR X (.builtin "sorted") rSortedD := by
  intro pins s σ H xs us Q I r q
  obtain ⟨a, kvs, ks, ex, hd, hks, q⟩ := q
  subst ex
  obtain ⟨u, eu, rx⟩ := vals1 r
  subst eu
  cases rx
  obtain ⟨z, lo, vs, rel, dd⟩ := dk_rd I.hok hd
  obtain ⟨ep, hat⟩ := dd.dictAt
  have hkeys : vs.map (·.1) = ks.map Sum.inl := rel.keys.symm.trans hks
  have hl : vs.length = ks.length := by
    have e := congrArg List.length hkeys
    rw [List.length_map, List.length_map] at e
    exact e
  have hkl : kvs.length = ks.length := by
    have e := congrArg List.length hks
    rw [List.length_map, List.length_map] at e
    exact e
  have h16 : vs.length ≤ sizeLine := by rw [hl, ← hkl]; exact z
  refine Calls.call_function_entry PyProof.Rows.kind_sorted PyProof.Rows.plain_sorted PyProof.Rows.entry_sorted (PyProof.Rows.args_sorted1 _) ?_
  unfold Builtin.«sorted»
  refine wpAny_bind (m := checkCount "sorted" 1 1 _) (wpAny_pure ?_)
  refine wpAny_bind (PySem.W.kdu_collect (A := X.A.in1) (PySem.W.kdl_dict (knd := mixKind X.prog X.w) (kvs := vs) (ep := ep) lo) (I.ok.hd hcalm) hat h16 fun h' tk acc hk hacc => ?_)
  have hal : acc.toList.length = ks.length := by rw [Array.length_toList, hacc.1, hl]
  have hS : IntsAre acc.toList ks := ints_each hal fun j v e => by
    obtain ⟨k, x, e1, e2⟩ := hacc.2 j v (by rw [← Array.getElem?_toList]; exact e)
    have e3 : (vs.map (·.1))[j]? = some k := by rw [List.getElem?_map, e1]; rfl
    rw [hkeys, List.getElem?_map] at e3
    cases e4 : ks[j]? with
    | none => rw [e4] at e3; cases e3
    | some y =>
      rw [e4] at e3
      have e5 : Sum.inl y = k := Option.some.inj e3
      subst e5
      rcases keyIs_shape (show keyIs (Sum.inl y) v = true from e2) with ⟨i, t, ek, ev⟩ | ⟨z, t, ek, ev⟩
      · cases ek
        exact ⟨y, t, rfl, ev⟩
      · cases ek
  have I1 : Inv X pins σ H { s with heap := h', toks := tk } := I.kept hk
  refine wpAny_bind (wpAny_newList ?_ (by rw [hal, ← hkl]; exact z))
  have hoL : (h'.push (seqObj "list" acc.toList.toArray 0)).get? h'.objs.size = some (seqObj "list" acc.toList.toArray 0) := Heap.get?_push_size _ rfl
  show wpAny _ _ _ _ _ { s with heap := h'.push (seqObj "list" acc.toList.toArray 0), toks := tk }
  refine wpAny_bind (wpAny_holding (wpAny_call_entry PyProof.Rows.slot_list_sort ⟨_, hoL, rfl⟩ PyProof.Rows.entry_list_sort
    (SrtO.list_sort_ord (s := { s with heap := h'.push (seqObj "list" acc.toList.toArray 0), toks := tk }) SrtO.swo_int hoL (by rw [hal, ← hkl]; exact z) (fun h2 => SrtO.ints_sortable hS h2) fun out g0 g00 => ⟨_, rfl, ?_⟩) (PyProof.Rows.args_list_sort _)))
  obtain ⟨g1, g2, g3⟩ := SrtO.ints_out hS g0 g00
  obtain ⟨e', he'⟩ := PyProof.Rows.sortedHeap_at (vs := acc.toList) (out := out.toArray) hoL
  have hlen : ((out.map SrtO.iv).map V.int).length ≤ sizeLine := by
    rw [List.length_map, g2.length_eq, ← hkl]
    exact z
  refine wpAny_pure ⟨_, rfl, .ref h'.objs.size, upd H h'.objs.size (.lst ((out.map SrtO.iv).map V.int)), I1.laid (t' := tk) (fun b u e => ?_) (Nat.le_refl _)
    (show ObjOk X.prog X.w _ _ _ (.lst ((out.map SrtO.iv).map V.int)) from ⟨hlen, out, e', vals_of_ints g1, he'⟩), rfl, q _ _ g2 g3 (I1.hok.fresh (Nat.le_refl _))⟩
  have hb : b < h'.objs.size := Heap.lt_size e
  rw [PyProof.Rows.sortedHeap_old (Nat.ne_of_lt hb) (by rw [size_push']; exact Nat.lt_succ_of_lt hb)]
  exact Heap.get?_push_of_some _ e
end
end Rg
/-! dicts whose keys are pairs of ints: d != {}, min(d), d.pop(k), sorted(d); d.update(list of pairs) -/
namespace Rg
open PySem PySem.Spec PyProof.Rows L2
section
variable {prog : Program} {w : World} {A : Around} {E : Value → Shared → Prop} {s : Shared}
theorem ne_empty {a b : Addr} {es : Array DictEntry} {ep ep' : Nat} {Q : Value → Shared → Prop} (ha : (a == sysModules) = false) (hb : (b == sysModules) = false)
    (da : s.heap.DictRaw a es ep) (db : s.heap.DictRaw b #[] ep') (hu : A.units < cLine) (h : Q (.bool (decide (es.size ≠ 0))) s) :
    wpAny (model prog w) A (compareOp .NotEq (.ref a) (.ref b)) Q E s := by
  refine wpAny_richCompare_same_room (op := .NotEq) da.typeIs db.typeIs PySem.F.slot_dict_ne (wpAny_call_entry PySem.F.slot_dict_ne da.typeIs PySem.F.entry_dict_ne ?_ (PySem.F.args_dict_ne_2 _ _)) hu
  show wpAny _ _ (Builtin.Dict.dictSlotArgs "__ne__" ⟨[.ref a, .ref b], []⟩ >>= _) _ _ s
  refine wpAny_bind ?_
  unfold Builtin.Dict.dictSlotArgs
  refine wpAny_bind (wpAny_notOrdered_dict da.typeIs ?_)
  show wpAny _ _ (pure (Value.ref a, Value.ref b)) _ _ s
  refine wpAny_pure ?_
  refine wpAny_bind (wpAny_isInstance (T := "dict") db.typeIs PySem.F.sub_dict_dict ?_)
  simp only [Bool.not_true, Bool.false_eq_true, if_false]
  refine wpAny_bind (wpAny_pure (wpAny_bind (wpAny_pure ?_)))
  obtain ⟨oa, hoa, _, hda⟩ := da
  obtain ⟨ob, hob, _, hdb⟩ := db
  refine wpAny_bind (wpAny_mono (Q := fun r s' => r = decide (es.size = 0) ∧ s' = s) (E := E) ?_ (fun r s' z => ?_) fun _ _ e => e)
  · unfold Builtin.Dict.samePairs Builtin.Dict.showsAll
    rw [if_neg (show ¬ (a == sysModules) = true by rw [ha]; exact Bool.false_ne_true), if_neg (show ¬ (b == sysModules) = true by rw [hb]; exact Bool.false_ne_true)]
    refine wpAny_bind (wpAny_pure (wpAny_bind (wpAny_pure ?_)))
    refine wpAny_bind (wpAny_dictEntries hoa hda ?_)
    dsimp only
    refine wpAny_bind (wpAny_dictEntries hob hdb ?_)
    by_cases hsz : es.size = 0
    case neg =>
      rw [if_pos (by simpa using hsz)]
      exact wpAny_bind (wpAny_rule (wpAny_pure ⟨(decide_eq_false hsz).symm, rfl⟩))
    case pos =>
      rw [if_neg (by rw [hsz]; simp)]
      refine wpAny_bind (wpAny_dictEpoch hoa hda ?_)
      refine wpAny_bind ?_
      rw [Std.Legacy.Range.forIn_eq_forIn_range']
      simp only [Std.Legacy.Range.size, Nat.sub_zero, Nat.add_sub_cancel, Nat.div_one, hsz]
      simp only [List.range'_zero, List.forIn_nil]
      refine wpAny_pure ?_
      exact wpAny_pure ⟨by simp, rfl⟩
  · obtain ⟨rfl, rfl⟩ := z
    refine wpAny_pure ⟨_, rfl, ?_, ?_⟩
    · exact fun x => nomatch x
    · by_cases hsz : es.size = 0
      · simpa [hsz] using h
      · simpa [hsz] using h
end
def pk (p : Pt) : List L2.Key := [Sum.inl p.1, Sum.inl p.2]
theorem pk_inj {p q : Pt} (h : pk p = pk q) : p = q := by
  unfold pk at h
  simp at h
  exact Prod.ext h.1 h.2
theorem pk_tup (p : Pt) : (pk p).map kV = [V.int p.1, V.int p.2] := rfl
section
variable {X : Cx} {pins : List (Addr × Obj)} {σ : L2.St} {H : Hp} {s : Shared}
/-- the entries of such a dict: the keys' tuples in order -/
theorem dt_pairs {a : Addr} {kvs : List (List L2.Key × V)} {ps : List Pt} (ok : HOk X.prog X.w H s.heap) (ha : H a = some (.dT kvs)) (hk : kvs.map (·.1) = ps.map pk) :
    ∃ (es : Array DictEntry) (ep : Nat) (ts : List Addr), s.heap.DictRaw a es ep ∧ (a == sysModules) = false ∧ es.size = ps.length ∧ PrsAt H ts ps ∧ es.toList.map (·.key) = ts.map Value.ref ∧ ps.length ≤ sizeLine := by
  obtain ⟨z, hd, xs, rel, o, es, ep, ho, hx, hdat, hes, his, hn⟩ := dt_of ok ha
  have l1 : kvs.length = xs.length := Paired.length rel
  have l2 : kvs.length = ps.length := by
    have e := congrArg List.length hk
    rwa [List.length_map, List.length_map] at e
  have l3 : es.size = xs.length := by
    have e := congrArg List.length hes
    rwa [List.length_map, Array.length_toList] at e
  refine ⟨es, ep, xs.map (·.2.1), ⟨o, ho, hx, hdat⟩, hd, by omega, ⟨by rw [List.length_map]; omega, fun i t e h1 h2 => ?_⟩, ?_, by omega⟩
  · rw [List.getElem?_map] at h1
    cases q : xs[i]? with
    | none =>
      rw [q] at h1
      cases h1
    | some x =>
      rw [q] at h1
      cases h1
      obtain ⟨kv, hkv, _, r2, _⟩ := DX.pget rel q
      have e1 : (kvs.map (·.1))[i]? = some kv.1 := by rw [List.getElem?_map, hkv] <;> rfl
      rw [hk, List.getElem?_map, h2] at e1
      have e2 : pk e = kv.1 := Option.some.inj e1
      rw [r2, ← e2, pk_tup]
  · rw [hes, List.map_map, List.map_map]
    rfl
/-- d != {} -/
def rNeE : V → V → Hp → VK → Prop := fun x y H Q => ∃ (a b : Addr) (kvs : List (List L2.Key × V)), x = .ref a ∧ y = .ref b ∧ H a = some (.dT kvs) ∧ H b = some (.dK []) ∧ Q (.bl (decide (kvs ≠ []))) H
theorem op_neE (hu : X.A.units < cLine) : OpR X (compareOp .NotEq) rNeE := by
  intro pins s σ H x y v u Q I rx ry h
  obtain ⟨a, b, kvs, rfl, rfl, ea, eb, q⟩ := h
  obtain rfl : v = Value.ref a := rx
  obtain rfl : u = Value.ref b := ry
  obtain ⟨z, hd, xs, rel, o, es, ep, ho, hx, hdat, hes, his, hn⟩ := dt_of I.hok ea
  obtain ⟨_, hb, vs, r2, d2⟩ := dk_of I.hok eb
  obtain ⟨es2, ep2, hr2, hs2, _⟩ := Heap.DictOf.raw d2
  have v0 : vs = [] := by cases r2; rfl
  have e0 : es2 = #[] := by
    rw [v0] at hs2
    exact Array.eq_empty_of_size_eq_zero hs2
  rw [e0] at hr2
  have l1 : kvs.length = xs.length := Paired.length rel
  have l3 : es.size = xs.length := by
    have e := congrArg List.length hes
    rwa [List.length_map, Array.length_toList] at e
  refine ne_empty hd hb ⟨o, ho, hx, hdat⟩ hr2 hu ⟨.bl _, H, I, rfl, ?_⟩
  have e : decide (es.size ≠ 0) = decide (kvs ≠ []) := by
    refine decide_eq_decide.mpr ?_
    rw [l3, ← l1]
    exact not_congr List.length_eq_zero_iff
  rw [e]
  exact q
/-- min(d), d's keys pairs of ints: the key's own tuple -/
def rMinT : List V → Hp → VK → Prop := fun vs H Q => ∃ (a : Addr) (kvs : List (List L2.Key × V)) (p0 : Pt) (ps : List Pt), vs = [V.ref a] ∧ H a = some (.dT kvs) ∧ kvs.map (·.1) = (p0 :: ps).map pk ∧
  ∀ t : Addr, H t = some (.tup [.int (PySem.W.minOf p0 ps).1, .int (PySem.W.minOf p0 ps).2]) → Q (.ref t) H
theorem cr_minT (hc : X.calm = true) (hu : X.A.units + 2 < cLine) : CallR X (.builtin "min") rMinT := by
  intro pins s σ H vs us Q I r h
  obtain ⟨a, kvs, p0, ps, rfl, ha, hk, q⟩ := h
  rw [Vals.ref1 r]
  obtain ⟨es, ep, ts, raw, hsys, hsz, hp, hkey, hz⟩ := dt_pairs I.hok ha hk
  have hlt : a < s.heap.objs.size := by
    obtain ⟨o, ho, _⟩ := raw
    exact Heap.lt_size ho
  obtain ⟨as, rs⟩ := holdAll_of I.hok hp
  have rs2 : ReadsAll s.heap (es.map (·.key)).toList ((p0 :: ps).map PySem.W.Datum.toD) as := by
    rw [Array.toList_map, hkey]
    exact rs
  refine call_min_walkH (wpAny_pyIter_dict_raw hsys raw ?_)
  refine ⟨_, _, _, _, _, _, _, s.heap, fun i j => PySem.W.dataLt (((p0 :: ps).map PySem.W.Datum.toD).getD i .none) (((p0 :: ps).map PySem.W.Datum.toD).getD j .none), rfl, (Walks.rawKeys (A := X.A.in1) (I.ok.hd hc) s.heap.objs.size a (Nat.ne_of_lt hlt) es ep).toS, ⟨⟨_, Heap.get?_push_size _ rfl, rfl, rfl⟩, raw.at fun o e => Heap.get?_push_of_some _ e⟩, fun b hb => ?_, by rw [hsz]; exact Nat.succ_pos _, fun b o e hb => ?_, fun b o e => Heap.get?_push_of_some _ e, ?_, fun v s' hP m => ?_⟩
  · show b < (s.heap.push _).objs.size
    rw [Heap.size_push]
    rcases List.mem_cons.mp hb with e | hb
    · rw [e]
      exact Nat.lt_succ_self _
    · rw [List.mem_singleton.mp hb]
      exact Nat.lt_succ_of_lt hlt
  · exact absurd (Heap.lt_size e) ((List.mem_singleton.mp hb) ▸ Nat.lt_irrefl _)
  · intro i j vi vj s1 Q1 E1 hk1 ⟨hi, ei⟩ ⟨hj, ej⟩ hq1
    exact PySem.W.cmpIn_lt (A := X.A.in1) rs2 (PySem.W.alikeAll_datum (p0 :: ps)) (by
      have := PySem.W.depthAll_map (p0 :: ps)
      have e : PySem.W.Datum.depth Pt = 1 := rfl
      show X.A.units + 1 + _ < _
      omega) i j vi vj s1 Q1 E1 hk1 (by show (es.map (·.key))[i]? = some vi; rw [Array.getElem?_map, Array.getElem?_eq_getElem hi, ei] <;> rfl) (by show (es.map (·.key))[j]? = some vj; rw [Array.getElem?_map, Array.getElem?_eq_getElem hj, ej] <;> rfl) hq1
  · obtain ⟨h', tk, rfl, hk'⟩ := PySem.W.moved_old rfl rfl m
    obtain ⟨hi, rfl⟩ := hP
    have I1 : Inv X pins σ H { s with heap := h', toks := tk } := I.kept hk'
    have e1 : es.size - 1 = ps.length := by
      rw [hsz]
      rfl
    have e2 := PySem.W.argBest_fold PySem.W.dataLt PyData.none (PySem.W.Datum.toD p0) (ps.map PySem.W.Datum.toD) ps.length (by rw [List.length_map]; exact Nat.le_refl _)
    rw [show (ps.map PySem.W.Datum.toD).take ps.length = ps.map PySem.W.Datum.toD from List.take_of_length_le (by rw [List.length_map]; exact Nat.le_refl _)] at e2
    have e4 : (ps.map PySem.W.Datum.toD).foldl (fun a y => if PySem.W.dataLt y a then y else a) (PySem.W.Datum.toD p0) = PySem.W.Datum.toD (PySem.W.minOf p0 ps) := PySem.W.minD_map p0 ps
    rw [e4] at e2
    have e5 : argBest (fun i j => PySem.W.dataLt (((p0 :: ps).map PySem.W.Datum.toD).getD i .none) (((p0 :: ps).map PySem.W.Datum.toD).getD j .none)) (es.size - 1) = argBest (fun i j => PySem.W.dataLt ((PySem.W.Datum.toD p0 :: ps.map PySem.W.Datum.toD).getD i PyData.none) ((PySem.W.Datum.toD p0 :: ps.map PySem.W.Datum.toD).getD j PyData.none)) ps.length := by
      rw [e1]
      rfl
    generalize argBest (fun i j => PySem.W.dataLt (((p0 :: ps).map PySem.W.Datum.toD).getD i .none) (((p0 :: ps).map PySem.W.Datum.toD).getD j .none)) (es.size - 1) = n at hi e5 ⊢
    rw [← e5] at e2
    have hn : n < (p0 :: ps).length := by
      have := e2.1
      show n < ps.length + 1
      omega
    have hnt : n < ts.length := by
      rw [hp.1]
      exact hn
    have hkn : es[n].key = Value.ref ts[n] := by
      have e6 : (es.toList.map (·.key))[n]? = (ts.map Value.ref)[n]? := by rw [hkey]
      rw [List.getElem?_map, List.getElem?_map, List.getElem?_eq_getElem hnt, Array.getElem?_toList, Array.getElem?_eq_getElem hi] at e6
      exact Option.some.inj e6
    have ht := hp.2 n ts[n] (p0 :: ps)[n] (List.getElem?_eq_getElem hnt) (List.getElem?_eq_getElem hn)
    have e7 : PySem.W.Datum.toD (p0 :: ps)[n] = PySem.W.Datum.toD (PySem.W.minOf p0 ps) := by
      rw [← e2.2]
      show _ = (List.map PySem.W.Datum.toD (p0 :: ps)).getD n .none
      rw [List.getD_eq_getElem?_getD, List.getElem?_map, List.getElem?_eq_getElem hn] <;> rfl
    have e8 : (p0 :: ps)[n] = PySem.W.minOf p0 ps := by
      have a1 := PySem.W.Datum.eqv (p0 :: ps)[n] (PySem.W.minOf p0 ps)
      rw [e7, PySem.W.Datum.eqv] at a1
      exact of_decide_eq_true (a1.symm.trans (decide_eq_true rfl))
    rw [hkn]
    rw [e8] at ht
    exact ⟨.ref ts[n], H, I1, rfl, q _ ht⟩
/-- d.pop(t), d's keys tuples, t there -/
def rPopT : V → List V → Hp → VK → Prop := fun x xs H Q => ∃ (a b : Addr) (kvs : List (List L2.Key × V)) (k : List L2.Key) (v : V), x = .ref a ∧ xs = [.ref b] ∧ H a = some (.dT kvs) ∧ H b = some (.tup (k.map kV)) ∧ valV kvs k = some v ∧ Q v (upd H a (.dT (dropK kvs k)))
theorem meetsPop1 {prog : Program} {w : World} {K : Type} [DecidableEq K] {knd : HeapKind prog w K} {d b : Addr} {k : K} (hd : (d == sysModules) = false) :
    MeetsIn prog w (Builtin.«dict.pop» ⟨[.ref d, .ref b], []⟩) (fun A R s => ∃ xs p, knd.room A.in1 ∧ knd.is s.heap k b ∧ s.heap.DictOfH knd d xs ∧ xs.length ≤ sizeLine ∧ atKey xs k = some p ∧
      ∀ h' tk, h'.DictOfH knd d (DT.dropH xs k) → Heap.SameBut d s.heap h' → R (.ok (.ret p.2)) { s with heap := h', toks := tk }) :=
  .of_wp fun A R s ⟨xs, p0, hu, hkey, hm, hsz, hp0, hsome⟩ => by
    obtain ⟨o, es, ep, ho, hc, hdat, he, his, hn⟩ := id hm
    have hes : es.size = xs.length := size_of_entries he
    have hpart : (keyPart (Value.ref b)).isSome = false := rfl
    unfold Builtin.«dict.pop»
    refine wpAny_bind ?_
    unfold Builtin.Dict.keyAndDefault
    refine wpAny_bind (wpAny_notOrdered_dict hm.typeIs ?_)
    show wpAny _ _ (pure (d, Value.ref b, none)) _ _ s
    refine wpAny_pure ?_
    simp only [hpart, Bool.false_eq_true, if_false]
    refine wpAny_bind (wpAny_dictEntries ho hdat (wpAny_bind (wpAny_pure ?_)))
    cases hem : es.isEmpty with
    | true =>
      have h0 : xs = [] := by
        have z : es.size = 0 := by simpa using hem
        exact List.length_eq_zero_iff.mp (by omega)
      rw [h0] at hp0
      cases hp0
    | false =>
      simp only [Bool.false_eq_true, if_false]
      refine wpAny_bind (DT.takeH hu hkey hm hsz (fun hno => ?_) fun p e hp hev h' hm' hs' => ?_)
      · rw [hno] at hp0
        cases hp0
      · rw [hp] at hp0
        cases hp0
        simp only [Option.isNone_some, Bool.false_eq_true, if_false]
        exact wpAny_bind (wpAny_letGo (wpAny_pure ⟨e.val, rfl, by rw [hev]; exact hsome h' _ hm' hs'⟩))
theorem mt_popT1 (hu : X.A.units + 1 < cLine) : MtR X "dict.pop" rPopT := by
  intro pins s σ H x xs v us Q I rx rxs h
  obtain ⟨a, b, kvs, k, v0, rfl, rfl, ha, hb, hv, q⟩ := h
  cases rx
  obtain ⟨u1, rfl, r1⟩ := vals1 rxs
  cases r1
  obtain ⟨z, hd, xs', rel, dd⟩ := dt_of I.hok ha
  have hz : xs'.length ≤ sizeLine := by rw [← Paired.length rel]; exact z
  have r := rel.val k
  rw [hv] at r
  obtain ⟨p, hp, rp⟩ : ∃ p, atKey xs' k = some p ∧ RelV v0 p.2 := by
    cases q : atKey xs' k with
    | none =>
      rw [q] at r
      exact (show False from r).elim
    | some p =>
      rw [q] at r
      exact ⟨p, rfl, r⟩
  refine call_meetsIn PySem.F.slot_dict_pop dd.typeIs PySem.F.entry_dict_pop (PySem.F.args_dict_pop_2 _ _) (meetsPop1 (knd := tupleKind (mixKind X.prog X.w)) (k := k) hd)
    ⟨xs', p, tupleKind_room_in1 hu, key_of I.hok hb, dd, hz, hp, fun h' tk dd' hs => ?_⟩
  obtain ⟨o, es, ep, hq, h2, h3, h4, _, h5⟩ := dd'
  have I2 : Inv X pins σ (upd H a (.dT (dropK kvs k))) { s with heap := h', toks := tk } :=
    d_write I (by rw [ha]; exact True.intro) hs ⟨o, hq⟩ ⟨Nat.le_trans (dropK_le kvs k) z, hd, _, (DX.KT_drop k rel).keeps (fun c ys ec => (by rw [upd_ne (ne_of ec ha (fun z => nomatch z))]; exact ec)), o, es, ep, hq, h2, h3, h4, h5⟩
  show EP X pins σ Q p.2 _
  exact ⟨v0, _, I2, rp, q⟩
/-- sorted(d), d's keys pairs of ints -/
def rSortedT : List V → Hp → VK → Prop := fun xs H Q => ∃ (a : Addr) (kvs : List (List L2.Key × V)) (ps : List Pt), xs = [.ref a] ∧ H a = some (.dT kvs) ∧ kvs.map (·.1) = ps.map pk ∧
  ∀ (us : List Addr) (qs : List Pt) (p : Addr), qs.Perm ps → qs.Pairwise (fun x y => SrtO.lexB y x = false) → PrsAt H us qs → H p = none → Q (.ref p) (upd H p (.lst (us.map V.ref)))
/-- the two ints of a tracked tuple -/
def prOf (H : Hp) (t : Addr) : Pt := match H t with
  | some (.tup [.int a, .int b]) => (a, b)
  | _ => (0, 0)
theorem prOf_eq {H : Hp} {t : Addr} {e : Pt} (h : H t = some (.tup [.int e.1, .int e.2])) : prOf H t = e := by
  unfold prOf
  rw [h]
def refA : Value → Addr
  | .ref t => t
  | _ => 0
theorem prs_map {H : Hp} : ∀ {ts : List Addr} {ps : List Pt}, PrsAt H ts ps → ts.map (prOf H) = ps
  | [], [], _ => rfl
  | [], b :: s, p => by cases p.1
  | a :: r, [], p => by cases p.1
  | a :: r, b :: s, p => by
    rw [List.map_cons, prOf_eq (p.2 0 a b rfl rfl), prs_map (ts := r) (ps := s) ⟨by simpa using p.1, fun i t e h1 h2 => p.2 (i + 1) t e h1 h2⟩]
theorem prs_of {H : Hp} : ∀ (ts : List Addr), (∀ t ∈ ts, ∃ e : Pt, H t = some (.tup [.int e.1, .int e.2])) → PrsAt H ts (ts.map (prOf H))
  | ts, h => ⟨(List.length_map ..).symm, fun i t e h1 h2 => by
    rw [List.getElem?_map, h1] at h2
    obtain ⟨e', he⟩ := h t (List.mem_of_getElem? h1)
    rw [← Option.some.inj h2]
    show H t = some (.tup [.int (prOf H t).1, .int (prOf H t).2])
    rw [prOf_eq he]
    exact he⟩
theorem PrsAt.mem {H : Hp} {ts : List Addr} {ps : List Pt} (h : PrsAt H ts ps) {t : Addr} (m : t ∈ ts) : ∃ e : Pt, H t = some (.tup [.int e.1, .int e.2]) := by
  obtain ⟨i, hi, e⟩ := List.mem_iff_getElem.mp m
  have hl : i < ps.length := by
    rw [← h.1]
    exact hi
  exact ⟨_, h.2 i t ps[i] (by rw [List.getElem?_eq_getElem hi, e]) (List.getElem?_eq_getElem hl)⟩
theorem cr_sortedT (hcalm : X.calm = true) : CallR X (.builtin "sorted") rSortedT := by
  intro pins s σ H xs us Q I r q
  obtain ⟨a, kvs, ps, ex, hd, hks, q⟩ := q
  subst ex
  obtain ⟨u, eu, rx⟩ := vals1 r
  subst eu
  cases rx
  obtain ⟨es, ep, ts, raw, hsys, hsz, hp, hkey, hz⟩ := dt_pairs I.hok hd hks
  refine Calls.call_function_entry PyProof.Rows.kind_sorted PyProof.Rows.plain_sorted PyProof.Rows.entry_sorted (PyProof.Rows.args_sorted1 _) ?_
  unfold Builtin.«sorted»
  refine wpAny_bind (m := checkCount "sorted" 1 1 _) (wpAny_pure ?_)
  refine wpAny_bind (PySem.W.kdu_collect (A := X.A.in1) (KdlSrc.rawDict (es := es) (ep := ep) hsys) (I.ok.hd hcalm) raw (by rw [hsz]; exact hz) fun h' tk acc hk hacc => ?_)
  have hacc2 : acc.toList = ts.map Value.ref := by
    have l1 : acc.size = ts.length := by rw [hacc.1, hsz, hp.1]
    refine List.ext_getElem? fun j => ?_
    rw [Array.getElem?_toList]
    by_cases hj : j < ts.length
    · have hja : j < acc.size := by omega
      obtain ⟨hje, e1⟩ := hacc.2 j acc[j] (Array.getElem?_eq_getElem hja)
      rw [Array.getElem?_eq_getElem hja, e1]
      have e6 : (es.toList.map (·.key))[j]? = (ts.map Value.ref)[j]? := by rw [hkey]
      rw [← e6, List.getElem?_map, Array.getElem?_toList, Array.getElem?_eq_getElem hje] <;> rfl
    · rw [Array.getElem?_eq_none (by omega), List.getElem?_eq_none (by rw [List.length_map]; omega)]
  have I1 : Inv X pins σ H { s with heap := h', toks := tk } := I.kept hk
  have hal : acc.toList.length = ps.length := by rw [hacc2, List.length_map, hp.1]
  refine wpAny_bind (wpAny_newList ?_ (by rw [hal]; exact hz))
  have hoL : (h'.push (seqObj "list" acc.toList.toArray 0)).get? h'.objs.size = some (seqObj "list" acc.toList.toArray 0) := Heap.get?_push_size _ rfl
  show wpAny _ _ _ _ _ { s with heap := h'.push (seqObj "list" acc.toList.toArray 0), toks := tk }
  have hpr : ∀ v ∈ acc.toList, Srt.IsPair (h'.push (seqObj "list" acc.toList.toArray 0)) v (prOf H (refA v)).1 (prOf H (refA v)).2 := fun v hv => by
    rw [hacc2] at hv
    obtain ⟨t, ht, rfl⟩ := List.mem_map.mp hv
    obtain ⟨e, he⟩ := hp.mem ht
    show Srt.IsPair _ _ (prOf H t).1 (prOf H t).2
    rw [prOf_eq he]
    obtain ⟨_, its2, r2, o, ho, hc, n, hd⟩ := I1.hok _ _ he
    obtain ⟨u1, u2, rfl, ri, rj⟩ := vals2 r2
    obtain ⟨t1, rfl⟩ := ri
    obtain ⟨t2, rfl⟩ := rj
    exact ⟨t, o, t1, t2, n, rfl, Heap.get?_push_of_some _ ho, hc, hd⟩
  refine wpAny_bind (wpAny_holding (wpAny_call_entry PyProof.Rows.slot_list_sort ⟨_, hoL, rfl⟩ PyProof.Rows.entry_list_sort
    (SrtO.list_sort_ord (s := { s with heap := h'.push (seqObj "list" acc.toList.toArray 0), toks := tk }) (SrtO.swo_lex fun u => prOf H (refA u)) hoL (by rw [hal]; exact hz) (fun h2 => SrtO.pairs_sortableO (by omega) hpr fun o e => ?_) fun out g0 g00 => ⟨_, rfl, ?_⟩) (PyProof.Rows.args_list_sort _)))
  · have e' : some o = some (seqObj "list" acc.toList.toArray 0) := e.symm.trans hoL
    cases e'
    intro c
    exact absurd (Value.type.inj c) (by decide)
  · have hout : out = (out.map refA).map Value.ref := by
      rw [List.map_map]
      refine (List.map_id out).symm.trans (List.map_congr_left fun v hv => ?_)
      have := g00.perm.mem_iff.mp hv
      rw [hacc2] at this
      obtain ⟨t, _, rfl⟩ := List.mem_map.mp this
      rfl
    have hperm : (out.map refA).Perm ts := by
      have := g00.perm.map refA
      rw [hacc2, List.map_map] at this
      rwa [show ts.map (refA ∘ Value.ref) = ts from List.map_id ts] at this
    have hpu := prs_of (H := H) (out.map refA) fun t ht => hp.mem (hperm.mem_iff.mp ht)
    obtain ⟨e', he'⟩ := PyProof.Rows.sortedHeap_at (vs := acc.toList) (out := out.toArray) hoL
    have hlen : ((out.map refA).map V.ref).length ≤ sizeLine := by
      rw [List.length_map, hperm.length_eq, hp.1]
      exact hz
    refine wpAny_pure ⟨_, rfl, .ref h'.objs.size, upd H h'.objs.size (.lst ((out.map refA).map V.ref)), I1.laid (t' := tk) (fun b u e => ?_) (Nat.le_refl _)
      (show ObjOk X.prog X.w _ _ _ (.lst ((out.map refA).map V.ref)) from ⟨hlen, out, e', ?_, he'⟩), rfl, q (out.map refA) _ _ ?_ ?_ hpu (I1.hok.fresh (Nat.le_refl _))⟩
    · have hb : b < h'.objs.size := Heap.lt_size e
      rw [PyProof.Rows.sortedHeap_old (Nat.ne_of_lt hb) (by rw [size_push']; exact Nat.lt_succ_of_lt hb)]
      exact Heap.get?_push_of_some _ e
    · have rr : ∀ l : List Addr, Vals (l.map V.ref) (l.map Value.ref) := fun l => by
        induction l with
        | nil => exact .nil
        | cons a r ih => exact .cons rfl ih
      have := rr (out.map refA)
      rwa [← hout] at this
    · have := hperm.map (prOf H)
      rwa [prs_map hp] at this
    · rw [List.map_map]
      exact List.pairwise_map.mpr g0
end
end Rg
namespace Rg
open PySem PySem.Spec PyProof.Rows L2
theorem list_of {α : Type} {P : Nat → α → Prop} : ∀ (n : Nat), (∀ j, j < n → ∃ x, P j x) → ∃ l : List α, l.length = n ∧ ∀ j x, l[j]? = some x → P j x
  | 0, _ => ⟨[], rfl, fun j x h => by cases h⟩
  | n + 1, h => by
    obtain ⟨l, hl, hp⟩ := list_of n fun j hj => h j (Nat.lt_succ_of_lt hj)
    obtain ⟨x, hx⟩ := h n (Nat.lt_succ_self n)
    refine ⟨l ++ [x], by rw [List.length_append, hl] <;> rfl, fun j y hy => ?_⟩
    by_cases q : j < l.length
    · rw [List.getElem?_append_left q] at hy
      exact hp j y hy
    · rw [List.getElem?_append_right (by omega)] at hy
      have hj : j - l.length = 0 := by
        have := (List.getElem?_eq_some_iff.mp hy).1
        simp at this
        omega
      rw [hj] at hy
      cases hy
      have e : j = n := by omega
      rw [e]
      exact hx
section
variable {X : Cx}
/-- d.update(xs), d a dict with int and text keys, xs a list of pairs -/
def rUpdP (K : PySem.W.Frag) : V → List V → Hp → VK → Prop := fun x xs H Q => ∃ (d a : Addr) (kvs0 : List (L2.Key × V)) (ps : List Addr) (kvs : List (L2.Key × V)), x = .ref d ∧ xs = [.ref a] ∧ H d = some (.dK kvs0) ∧ SqL K H a (ps.map V.ref) ∧ Paired (fun p kv => SqT K H p [kV kv.1, kv.2]) ps kvs ∧
  kvs0.length + kvs.length ≤ sizeLine ∧ Q .non (upd H d (.dK (mergeK kvs0 kvs)))
theorem mt_updP (hc : X.calm = true) : MtR X "dict.update" (rUpdP X.K) := by
  intro pins s σ H x xs v us Q I rx rxs h
  obtain ⟨d, a, kvs0, ps, kvs, rfl, rfl, hd, hS, hp, hz, q⟩ := h
  cases rx
  obtain ⟨u1, rfl, r1⟩ := vals1 rxs
  cases r1
  obtain ⟨_, hsys, vs0, rel0, dd⟩ := dk_of I.hok hd
  obtain ⟨its, rv, pl, hz2⟩ := I.list hS
  obtain rfl := vals_refs rv
  obtain ⟨prs, rel, hl, hpr⟩ := pairs_of I hp
  have hlk : kvs.length = prs.length := rel.length
  obtain ⟨vps, hvl, hvp⟩ := list_of (P := fun j (x : Value × Value) => ∃ (b : Addr) (key : L2.Key), ps[j]? = some b ∧ IsTup s.heap b #[x.1, x.2] ∧ prs[j]? = some (key, x.2) ∧ keyIs key x.1 = true) ps.length fun j hj => by
    have hj2 : j < prs.length := by omega
    obtain ⟨b, u, e1, e2, e3⟩ := hpr j prs[j] (List.getElem?_eq_getElem hj2)
    exact ⟨(u, prs[j].2), b, prs[j].1, e1, e2, List.getElem?_eq_getElem hj2, e3⟩
  have hdl : ∃ o es ep, s.heap.get? d = some o ∧ o.data = .dict es ep := by
    obtain ⟨o, es, ep, ho, _, hdat, _⟩ := dd
    exact ⟨o, es, ep, ho, hdat⟩
  obtain ⟨od, esd, epd, hod, hdatd⟩ := hdl
  obtain ⟨oa, na, hoa, hca, hda, hdata⟩ := pl
  refine call_update_pairs (knd := mixKind X.prog X.w) (acc := vs0) (kvs := prs) (PairArg.list a (ps.map Value.ref).toArray (fun j => ps.getD j 0) vps) (I.ok.hd hc) ⟨⟨oa, na, hoa, hca, hda, hdata⟩, ?_, fun j k v e => ?_⟩ (fun hm => ?_) ⟨by rw [hvl]; exact hl, fun i key v e => ?_⟩ dd (by rw [← rel0.length, hvl, ← hl, ← hlk]; exact hz) fun h' tk dd' hk => ?_
  · rw [List.size_toArray, List.length_map, hvl]
  · obtain ⟨b, ky, e1, ⟨o, ho, hcl, n, hdt⟩, e3, e4⟩ := hvp j (k, v) e
    have eb : ps.getD j 0 = b := by rw [List.getD_eq_getElem?_getD, e1] <;> rfl
    refine ⟨?_, .inl ⟨o, ?_, hcl, n, hdt⟩⟩
    · show (ps.map Value.ref).toArray[j]? = some (Value.ref (ps.getD j 0))
      rw [List.getElem?_toArray, List.getElem?_map, e1, eb] <;> rfl
    · show s.heap.get? (ps.getD j 0) = some o
      rw [eb]
      exact ho
  · rcases List.mem_cons.mp hm with e | hm
    · rw [← e, hod] at hoa
      cases hoa
      rw [hdatd] at hdata
      cases hdata
    · obtain ⟨j, hj, ej⟩ := List.mem_map.mp hm
      have hj2 : j < vps.length := List.mem_range.mp hj
      obtain ⟨b, ky, e1, ⟨o, ho, hcl, n, hdt⟩, _⟩ := hvp j vps[j] (List.getElem?_eq_getElem hj2)
      have eb : ps.getD j 0 = b := by rw [List.getD_eq_getElem?_getD, e1] <;> rfl
      rw [eb] at ej
      rw [ej, hod] at ho
      cases ho
      rw [hdatd] at hdt
      cases hdt
  · obtain ⟨b, ky, e1, _, e3, e4⟩ := hvp i (key, v) e
    exact ⟨ky, e3, e4⟩
  · have hlen : (mergeK kvs0 kvs).length ≤ sizeLine := Nat.le_trans (length_mergeK kvs kvs0) hz
    obtain ⟨o2, es2, ep2, ho2, r2⟩ := _root_.id dd'
    refine ⟨.non, _, I.write (x := d) (e := d) (o := .dK (mergeK kvs0 kvs)) (t' := tk) (by rw [hd]; exact True.intro) (.inl rfl) (fun b u hb e => hk b u hb (by simp) e) ⟨_, ho2⟩ (show ObjOk X.prog X.w _ _ _ (.dK (mergeK kvs0 kvs)) from ⟨hlen, hsys, _, KV.merge rel rel0, dd'⟩), rfl, q⟩
/-- sorted(xs), xs a list of pairs of ints -/
def rSortedP (K : PySem.W.Frag) : List V → Hp → VK → Prop := fun vs H Q => ∃ (a : Addr) (ts : List Addr) (ps : List Pt), vs = [V.ref a] ∧ SqL K H a (ts.map V.ref) ∧ PrsAt H ts ps ∧
  ∀ (us : List Addr) (qs : List Pt) (p : Addr), qs.Perm ps → qs.Pairwise (fun x y => SrtO.lexB y x = false) → PrsAt H us qs → H p = none → Q (.ref p) (upd H p (.lst (us.map V.ref)))
def refV : V → Addr
  | .ref t => t
  | _ => 0
theorem cr_sortedP : CallR X (.builtin "sorted") (rSortedP X.K) := by
  intro pins s σ H vs us Q I r h
  obtain ⟨a, ts, ps, rfl, hs, hp, q⟩ := h
  refine cr_sortedPO pins s σ H _ us Q I r ⟨a, ts.map V.ref, fun x => prOf H (refV x), rfl, hs, fun x hx => ?_, fun ys p h1 h2 hpn => ?_⟩
  · obtain ⟨t, ht, rfl⟩ := List.mem_map.mp hx
    obtain ⟨e, he⟩ := hp.mem ht
    refine ⟨t, rfl, ?_⟩
    show H t = some (.tup [.int (prOf H t).1, .int (prOf H t).2])
    rw [prOf_eq he]
    exact he
  · have hys : ys = (ys.map refV).map V.ref := by
      rw [List.map_map]
      refine (List.map_id ys).symm.trans (List.map_congr_left fun v hv => ?_)
      obtain ⟨t, _, rfl⟩ := List.mem_map.mp (h2.perm.mem_iff.mp hv)
      rfl
    have hperm : (ys.map refV).Perm ts := by
      have := h2.perm.map refV
      rw [List.map_map] at this
      rwa [show ts.map (refV ∘ V.ref) = ts from List.map_id ts] at this
    have hpu := prs_of (H := H) (ys.map refV) fun t ht => hp.mem (hperm.mem_iff.mp ht)
    rw [hys]
    refine q (ys.map refV) _ p ?_ ?_ hpu hpn
    · have := hperm.map (prOf H)
      rwa [prs_map hp] at this
    · rw [List.map_map]
      exact List.pairwise_map.mpr h1
end
end Rg
/-! sums.py -/
namespace Rs
open PySem PySem.Spec PyProof.Rows L2 C8
theorem splitGo_nil {sign : Int} {part : Str} {acc : List Pc} : splitGo [] sign part acc = acc ++ [(sign, part)] := rfl
theorem splitGo_cons {c : Nat} {r : List Nat} {sign : Int} {part : Str} {acc : List Pc} : splitGo (c :: r) sign part acc = if c = 43 ∨ c = 45 then splitGo r (if c = 45 then -1 else 1) "" (acc ++ [(sign, part)]) else splitGo r sign (part ++ ⟨#[c]⟩) acc := rfl
def PcsAt (H : Hp) (ts : List Addr) (L : List Pc) : Prop := ts.length = L.length ∧ ∀ (i : Nat) (t : Addr) (e : Pc), ts[i]? = some t → L[i]? = some e → H t = some (.tup [.int e.1, .str e.2])
theorem PcsAt.nil {H : Hp} : PcsAt H [] [] := ⟨rfl, fun i t e h => by cases h⟩
theorem PcsAt.mono {H H' : Hp} {ts : List Addr} {L : List Pc} (h : PcsAt H ts L) (k : ∀ q xs, H q = some (.tup xs) → H' q = some (.tup xs)) : PcsAt H' ts L := ⟨h.1, fun i t e h1 h2 => k _ _ (h.2 i t e h1 h2)⟩
theorem PcsAt.snoc {H : Hp} {ts : List Addr} {L : List Pc} {t : Addr} {e : Pc} (h : PcsAt H ts L) (ht : H t = some (.tup [.int e.1, .str e.2])) : PcsAt H (ts ++ [t]) (L ++ [e]) := by
  refine ⟨by simp [h.1], fun i u f h1 h2 => ?_⟩
  by_cases hi : i < ts.length
  · rw [List.getElem?_append_left hi] at h1
    rw [List.getElem?_append_left (by rw [← h.1]; exact hi)] at h2
    exact h.2 i u f h1 h2
  · rw [List.getElem?_append_right (Nat.le_of_not_lt hi)] at h1
    rw [List.getElem?_append_right (by rw [← h.1]; exact Nat.le_of_not_lt hi), ← h.1] at h2
    cases q : i - ts.length with
    | zero =>
      rw [q] at h1 h2
      cases h1
      cases h2
      exact ht
    | succ n =>
      rw [q] at h1
      cases h1
theorem one_inj {c d : Nat} (h : (⟨#[c]⟩ : Str) = ⟨#[d]⟩) : c = d := by
  have : (#[c] : Array Nat) = #[d] := congrArg Str.cps h
  simpa using this
theorem in_signs (c : Nat) : inV (V.str ⟨#[c]⟩) [.str "+", .str "-"] = decide (c = 43 ∨ c = 45) := by
  rw [show ([.str "+", .str "-"] : List V) = (["+", "-"] : List Str).map V.str from rfl, in_strs]
  refine decide_eq_decide.mpr ⟨fun h => ?_, fun h => ?_⟩
  · rcases List.mem_cons.mp h with z | z
    · exact .inl (one_inj (d := 43) z)
    · exact .inr (one_inj (d := 45) (List.mem_singleton.mp z))
  · rcases h with rfl | rfl
    · exact List.mem_cons_self
    · exact List.mem_cons_of_mem _ List.mem_cons_self
theorem str_len_app (a : Str) (c : Nat) : (a ++ (⟨#[c]⟩ : Str)).length = a.length + 1 := by
  show (a.cps ++ #[c]).size = _
  simp
  rfl
theorem rmp_len (a b : Str) : (Txt.removeprefix a b).cps.size ≤ a.length := by
  unfold Txt.removeprefix
  split
  · unfold Txt.affix
    split
    · rename_i lo hi _
      by_cases q : (hi - lo == a.length) = true
      · rw [if_pos q]
        exact Nat.le_refl _
      · rw [if_neg q]
        exact le_strSub a lo hi
    · exact Nat.le_refl _
  · exact Nat.le_refl _
section
variable {P : Program} {w : World} {K : PySem.W.Frag} {mg : Str → Option Value} {base : Heap}
def spSplit : Sp := fun vs H Q _ => ∃ a : Str, vs = [.str a] ∧ a.length ≤ 100000 ∧ ∀ (H' : Hp) (p : Addr) (ts : List Addr), Same H H' → H p = none → H' p = some (.lst (ts.map V.ref)) → PcsAt H' ts (splitSum a) → Q (.ref p) H'
theorem ok_split_sum (D : DefAt K mg "split_sum" sD_split_sum) (T : Txt w K mg) : Cal P w K mg base 1 "split_sum" spSplit [] := by
  refine cal_of D sc_split_sum (fun _ _ _ _ _ _ us hl => match us, hl with | [_], _ => rfl) (fun vs H Q E h => ?_) (fun cdv A outer s H vs Q E hr h => ?_)
  · obtain ⟨a, rfl, _⟩ := h
    rfl
  · obtain ⟨a, rfl, hz, k⟩ := h
    refine ⟨_, (pss_cons (ps_set (i := 1) sc_split_sum.nd rfl (Or.inl rfl) (pe_lst pa_nil))
  (pss_cut (ps_set (i := 2) sc_split_sum.nd rfl (Or.inl rfl) (pe_ifExp (pt_val (pe_bm PySem.F.plainAttrs_str PySem.F.slot_str_startswith PySem.F.type_str_startswith mt_startswith (pv 0) (pa_cons pe_str pa_nil))) (pe_un un_neg pe_int) pe_int))
  (pss_cons (ps_set (i := 3) sc_split_sum.nd rfl (Or.inl rfl) pe_str)
  (pss_cons (ps_for PassesOwn.never rfl (pi_str (pe_bm PySem.F.plainAttrs_str PySem.F.slot_str_removeprefix PySem.F.type_str_removeprefix mt_removeprefix (pv 0) (pa_cons pe_str pa_nil))) (pg_name (i := 4) sc_split_sum.nd rfl (Or.inl rfl))
   (pss_one (ps_if (pt_cmpR op_in_seq (pv 4) (pe_tup (pa_cons pe_str (pa_cons pe_str pa_nil))) (by rfl))
   (pss_cons (ps_expr (pe_bm PySem.F.plainAttrs_list PySem.F.slot_list_append PySem.F.type_list_append mt_append (pv 1) (pa_cons (pe_tup (pa_cons (pv 2) (pa_cons (pv 3) pa_nil))) pa_nil)))
  (pss_cons (ps_set (i := 2) sc_split_sum.nd rfl (Or.inl rfl) (pe_ifExp (pt_cmpR op_eq (pv 4) pe_str (nomark _)) (pe_un un_neg pe_int) pe_int))
  (pss_one (ps_set (i := 3) sc_split_sum.nd rfl (Or.inl rfl) pe_str))))
   (pss_one (ps_aug (i := 3) sc_split_sum.nd rfl (.inl rfl) (pv 4) iop_add_str)))))
  (pss_cons (ps_expr (pe_bm PySem.F.plainAttrs_list PySem.F.slot_list_append PySem.F.type_list_append mt_append (pv 1) (pa_cons (pe_tup (pa_cons (pv 2) (pa_cons (pv 3) pa_nil))) pa_nil)))
  (pss_one (ps_ret (pv 1)))))))), ?_⟩
    refine ⟨Nat.zero_le _, fun p hp => ?_⟩
    refine ⟨fun σ' H' => σ' = [some (.str a), some (.ref p), some (.int (if Txt.startswith a "-" = true then -1 else 1)), none, none] ∧ H' = upd H p (.lst []), ?_, ?_⟩
    · refine ⟨_, rfl, (rfl : ("str" : String) = "str"), a, _, rfl, rfl, _, rfl, ?_⟩
      cases e : Txt.startswith a "-" with
      | true => exact iteT ⟨_, rfl, by rw [if_pos rfl]; exact ⟨rfl, rfl⟩⟩
      | false => exact iteF ⟨by rw [if_neg (by decide)] <;> rfl, rfl⟩
    rintro σ1 H1 ⟨rfl, rfl⟩
    have hz2 : (Txt.removeprefix a "-").cps.size ≤ 100000 := Nat.le_trans (rmp_len a "-") hz
    refine ⟨_, rfl, (rfl : ("str" : String) = "str"), a, _, rfl, rfl, Nat.le_trans hz (by decide), _, rfl, ?_⟩
    unfold splitSum at k
    generalize Txt.removeprefix a "-" = b at hz2 k
    refine for_it (walk_str (z := b)) (fun i σ H' => ∃ (sign : Int) (part : Str) (acc : List Pc) (ts : List Addr) (x4 : Option V), σ = [some (.str a), some (.ref p), some (.int sign), some (.str part), x4] ∧ Same H H' ∧ H' p = some (.lst (ts.map V.ref)) ∧ PcsAt H' ts acc ∧
        splitGo (b.cps.toList.drop i) sign part acc = splitGo b.cps.toList (if Txt.startswith a "-" = true then -1 else 1) "" [] ∧ part.length ≤ i ∧ acc.length ≤ i) ⟨_, _, [], [], _, rfl, Same.new hp, upd_same, PcsAt.nil, by rw [List.drop_zero], Nat.zero_le _, Nat.zero_le _⟩ (fun _ _ _ _ _ => trivial) ?_ ?_
    · rintro i x σ H1 H2 hi ⟨sign, part, acc, ts, x4, rfl, s1, hl, hA, he, hp1, hp2⟩ ⟨rfl, c, hc, rfl⟩
      have hd : b.cps.toList.drop i = c :: b.cps.toList.drop (i + 1) := by
        have : b.cps.toList[i]? = some c := by simpa using hc
        obtain ⟨h1, h2⟩ := List.getElem?_eq_some_iff.mp this
        rw [List.drop_eq_getElem_cons h1, h2]
      rw [hd, splitGo_cons] at he
      refine ⟨_, rfl, by decide, fun q hq => ⟨q, _, rfl, .inr (SqT.of upd_same), rfl, rfl, _, rfl, ?_⟩⟩
      rw [show (if (false : Bool) = true then !inV (V.str ⟨#[c]⟩) [.str "+", .str "-"] else inV (V.str ⟨#[c]⟩) [.str "+", .str "-"]) = decide (c = 43 ∨ c = 45) from in_signs c]
      have s2 := s1.add (o := .tup [.str "+", .str "-"]) hq
      have nqp : p ≠ q := ne_of_none hl hq
      have hl2 : upd H2 q (.tup [.str "+", .str "-"]) p = some (.lst (ts.map V.ref)) := (upd_ne nqp).trans hl
      have hA2 := hA.mono (H' := upd H2 q (.tup [.str "+", .str "-"])) (fun d xs e => (upd_ne (ne_of_none e hq)).trans e)
      generalize upd H2 q (.tup [.str "+", .str "-"]) = H3 at s2 hl2 hA2 ⊢
      by_cases hc2 : c = 43 ∨ c = 45
      · rw [decide_eq_true hc2]
        rw [if_pos hc2] at he
        refine iteT ⟨_, rfl, .inl ⟨rfl, _, SqL.of hl2⟩, _, rfl, _, rfl, (by show 2 ≤ sizeLine; decide), fun t ht => ?_⟩
        have ntp : p ≠ t := ne_of_none hl2 ht
        refine ⟨p, _, _, rfl, rfl, (upd_ne ntp).trans hl2, ?_, ?_⟩
        · rw [List.length_map, hA2.1]
          exact Nat.lt_of_le_of_lt (show acc.length ≤ 100000 by omega) (by decide)
        have s3 := (s2.add (o := .tup [.int sign, .str part]) ht).putNew (o := .lst (ts.map V.ref ++ [.ref t])) hp
        have hl3 : upd (upd H3 t (.tup [.int sign, .str part])) p (.lst (ts.map V.ref ++ [.ref t])) p = some (.lst ((ts ++ [t]).map V.ref)) := by
          rw [upd_same, List.map_append] <;> rfl
        have hA3 : PcsAt (upd (upd H3 t (.tup [.int sign, .str part])) p (.lst (ts.map V.ref ++ [.ref t]))) (ts ++ [t]) (acc ++ [(sign, part)]) := by
          refine PcsAt.snoc (hA2.mono fun d xs e => ?_) ((upd_ne ntp.symm).trans upd_same)
          have n1 : d ≠ p := fun z => by
            rw [z, hl2] at e
            cases e
          rw [upd_ne n1, upd_ne (ne_of_none e ht)]
          exact e
        generalize upd (upd H3 t (.tup [.int sign, .str part])) p (.lst (ts.map V.ref ++ [.ref t])) = H4 at s3 hl3 hA3 ⊢
        refine ⟨_, rfl, rfl, _, rfl, ?_⟩
        by_cases h5 : c = 45
        · rw [if_pos h5] at he
          rw [decide_eq_true (show V.str ⟨#[c]⟩ = V.str "-" by rw [h5] <;> rfl)]
          refine iteT ⟨_, rfl, ?_⟩
          exact ⟨_, _, _, _, _, rfl, s3, hl3, hA3, he, Nat.zero_le _, by rw [List.length_append]; exact Nat.succ_le_succ hp2⟩
        · rw [if_neg h5] at he
          rw [decide_eq_false (show ¬ V.str ⟨#[c]⟩ = V.str "-" from fun z => h5 (one_inj (V.str.inj z)))]
          refine iteF ?_
          exact ⟨_, _, _, _, _, rfl, s3, hl3, hA3, he, Nat.zero_le _, by rw [List.length_append]; exact Nat.succ_le_succ hp2⟩
      · rw [decide_eq_false hc2]
        rw [if_neg hc2] at he
        refine iteF ⟨_, rfl, _, rfl, part, ⟨#[c]⟩, rfl, rfl, ?_, ?_⟩
        · exact Nat.le_trans (show part.length + 1 ≤ 100001 by omega) (by decide)
        · exact ⟨_, _, _, _, _, rfl, s2, hl2, hA2, he, by rw [str_len_app]; exact Nat.succ_le_succ hp1, Nat.le_succ_of_le hp2⟩
    · rintro σ H1 ⟨sign, part, acc, ts, x4, rfl, s1, hl, hA, he, hp1, hp2⟩
      rw [List.drop_eq_nil_of_le (by simp), splitGo_nil] at he
      refine ⟨_, rfl, .inl ⟨rfl, _, SqL.of hl⟩, _, rfl, _, rfl, (by show 2 ≤ sizeLine; decide), fun t ht => ?_⟩
      have ntp : p ≠ t := ne_of_none hl ht
      refine ⟨p, _, _, rfl, rfl, (upd_ne ntp).trans hl, ?_, ?_⟩
      · rw [List.length_map, hA.1]
        exact Nat.lt_of_le_of_lt (show acc.length ≤ 100000 by omega) (by decide)
      refine ⟨_, rfl, k _ p (ts ++ [t]) ((s1.add ht).putNew hp) hp ?_ ?_⟩
      · rw [upd_same, List.map_append] <;> rfl
      · rw [← he]
        refine PcsAt.snoc (hA.mono fun d xs e => ?_) ((upd_ne ntp.symm).trans upd_same)
        have n1 : d ≠ p := fun z => by
          rw [z, hl] at e
          cases e
        rw [upd_ne n1, upd_ne (ne_of_none e ht)]
        exact e
end
end Rs
/-! sums.py: a frame, boxes, names -/
namespace Rs
open PySem PySem.Spec PyProof.Rows L2 C8
/-- where a frame lies -/
structure Fd where
  x : Addr
  dx : Addr
  b : Addr
  s : Addr
structure Fv where
  row : Int
  reach : Int
  own : Str
  boxes : List (Key × V)
  sums : List (Key × V)
def ff (A : Fd) (F : Fv) : List (Str × V) := [("row", .int F.row), ("reach", .int F.reach), ("own", .str F.own), ("boxes", .ref A.b), ("sums", .ref A.s)]
structure FAt (C : Addr) (H : Hp) (A : Fd) (F : Fv) : Prop where
  x : H A.x = some (.ins C A.dx (ff A F))
  b : H A.b = some (.dK F.boxes)
  s : H A.s = some (.dK F.sums)
theorem FAt.same {C : Addr} {H H' : Hp} {A : Fd} {F : Fv} (h : FAt C H A F) (k : Same H H') : FAt C H' A F := ⟨k _ _ h.x, k _ _ h.b, k _ _ h.s⟩
structure TxtF (K : PySem.W.Frag) (C : Addr) : Prop where
  cl : Cls K C
  row : NoAttr K C "row"
  reach : NoAttr K C "reach"
  own : NoAttr K C "own"
  boxes : NoAttr K C "boxes"
  sums : NoAttr K C "sums"
def isBox (F : Fv) (a : Str) : Bool := decide (a ∈ boxKeys) || (valV F.boxes (Sum.inr a)).isSome
/-- the box that a word is -/
def BoxIs (F : Fv) (a : Str) (n : Int) : Prop := valV F.boxes (Sum.inr a) = some (.int n) ∨ (valV F.boxes (Sum.inr a) = none ∧ (a, n) ∈ boxVals)
/-- the name that a word is -/
def NameIs (F : Fv) (a n : Str) : Prop := (isName a = true ∧ n = a) ∨ (isName a = false ∧ F.own ≠ "" ∧ isOwn a = true ∧ n = a ++ F.own)
theorem own_truth {a : Str} (h : a ≠ "") : ((a.length : Int) != 0) = true := by
  have : a.length ≠ 0 := fun z => h (by
    obtain ⟨c⟩ := a
    have z2 : c.size = 0 := z
    have : c = #[] := by simpa using z2
    rw [this] <;> rfl)
  simp
  omega
section
variable {P : Program} {w : World} {K : PySem.W.Frag} {mg : Str → Option Value} {base : Heap} {C : Addr}
def spIsBox (C : Addr) : Sp := fun vs H Q _ => ∃ (a : Str) (A : Fd) (F : Fv), vs = [.str a, .ref A.x] ∧ FAt C H A F ∧ Q (.bl (isBox F a)) H
theorem ok_is_box (D : DefAt K mg "is_box" sD_is_box) (T : Txt w K mg) (M' : TxtF K C) : Cal P w K mg base 1 "is_box" (spIsBox C) [] := by
  refine cal_of D sc_is_box (fun _ _ _ _ _ _ us hl => match us, hl with | [_, _], _ => rfl) (fun vs H Q E h => ?_) (fun cdv Ar outer s H vs Q E hr h => ?_)
  · obtain ⟨a, A, F, rfl, _⟩ := h
    rfl
  · obtain ⟨a, A, F, rfl, hF, k⟩ := h
    refine ⟨_, (pss_one (ps_ret (pe_or (pe_cmpR op_inK (pv 0) (pe_gR (by rfl) T.g_BOXES) (by rfl)) (pe_one (pe_cmp (pc_din (hu_of hr) (pv 0) (pe_fld (pv 1) rfl))))))), ?_⟩
    refine ⟨_, rfl, a, _, boxKeys, rfl, rfl, T.tab_BOXES, _, rfl, ?_⟩
    unfold isBox at k
    cases e : decide (a ∈ boxKeys) with
    | true =>
      rw [e, Bool.true_or] at k
      exact iteT k
    | false =>
      rw [e, Bool.false_or] at k
      exact iteF ⟨_, rfl, _, rfl, A.x, C, A.dx, ff A F, _, rfl, hF.x, M'.cl, M'.boxes, rfl, A.b, _, rfl, DGet.k (k := Sum.inr a) hF.b, k⟩
def spBoxOf (C : Addr) : Sp := fun vs H Q _ => ∃ (a : Str) (n : Int) (A : Fd) (F : Fv), vs = [.str a, .ref A.x] ∧ FAt C H A F ∧ BoxIs F a n ∧ Q (.int n) H
theorem ok_box_of (D : DefAt K mg "box_of" sD_box_of) (T : Txt w K mg) (M' : TxtF K C) (c_is_box : Cal P w K mg base 1 "is_box" (spIsBox C) []) : Cal P w K mg base 2 "box_of" (spBoxOf C) [] := by
  refine cal_of D sc_box_of (fun _ _ _ _ _ _ us hl => match us, hl with | [_, _], _ => rfl) (fun vs H Q E h => ?_) (fun cdv Ar outer s H vs Q E hr h => ?_)
  · obtain ⟨a, n, A, F, rfl, _⟩ := h
    rfl
  · obtain ⟨a, n, A, F, rfl, hF, hB, k⟩ := h
    refine ⟨_, (pss_cons (ps_if (pt_not (pt_val (pe_c c_is_box hr (by decide) (by rfl) (pa_cons (pv 0) (pa_cons (pv 1) pa_nil)))))
   (pss_one ps_never)
   pss_nil)
  (pss_one (ps_ret (pe_ifExp (pt_cmp (pc_din (hu_of hr) (pv 0) (pe_fld (pv 1) rfl))) (pe_dget (hu_of hr) (pe_fld (pv 1) rfl) (pv 0) (fun _ _ => rfl)) (pe_ix ix_kdict (pe_gR (by rfl) T.g_BOXES) (pv 0) (fun _ _ => rfl)))))), ?_⟩
    have hi : isBox F a = true := by
      unfold isBox
      rcases hB with z | ⟨_, z⟩
      · rw [z] <;> simp
      · have : a ∈ boxKeys := by
          have := List.mem_map_of_mem (f := fun e : Str × Int => e.1) z
          exact this
        rw [decide_eq_true this, Bool.true_or]
    refine ⟨_, rfl, _, rfl, a, A, F, rfl, hF, _, rfl, ?_⟩
    rw [hi]
    refine iteF ?_
    refine ⟨_, rfl, _, rfl, A.x, C, A.dx, ff A F, _, rfl, hF.x, M'.cl, M'.boxes, rfl, A.b, _, rfl, DGet.k (k := Sum.inr a) hF.b, _, rfl, ?_⟩
    rcases hB with z | ⟨z1, z2⟩
    · rw [z]
      refine iteT ⟨_, rfl, A.x, C, A.dx, ff A F, _, rfl, hF.x, M'.cl, M'.boxes, rfl, _, rfl, A.b, _, rfl, ?_, k⟩
      have := DGet.k (k := Sum.inr a) hF.b
      rw [z] at this
      exact this
    · rw [z1]
      refine iteF ?_
      exact ⟨_, rfl, _, _, _, rfl, rfl, T.v_BOXES _ z2, k⟩
def spNameOf (K : PySem.W.Frag) (C : Addr) : Sp := fun vs H Q _ => ∃ (a n : Str) (A : Fd) (F : Fv), vs = [.str a, .ref A.x] ∧ a.length ≤ 100000 ∧ F.own.length ≤ 100000 ∧ Tabs K H ∧ FAt C H A F ∧ NameIs F a n ∧ Q (.str n) H
theorem ok_name_of (D : DefAt K mg "name_of" sD_name_of) (T : Txt w K mg) (M' : TxtF K C) (c_is_name : Cal P w K mg base 2 "is_name" (spName K) []) (c_is_own_name : Cal P w K mg base 2 "is_own_name" (spOwn K) []) : Cal P w K mg base 3 "name_of" (spNameOf K C) [] := by
  refine cal_of D sc_name_of (fun _ _ _ _ _ _ us hl => match us, hl with | [_, _], _ => rfl) (fun vs H Q E h => ?_) (fun cdv Ar outer s H vs Q E hr h => ?_)
  · obtain ⟨a, n, A, F, rfl, _⟩ := h
    rfl
  · obtain ⟨a, n, A, F, rfl, hz, hz2, hT, hF, hN, k⟩ := h
    refine ⟨_, (pss_cons (ps_if (pt_val (pe_c c_is_name hr (by decide) (by rfl) (pa_cons (pv 0) pa_nil)))
   (pss_one (ps_ret (pv 0)))
   pss_nil)
  (pss_cons (ps_if (PW.pt (pw_and (pt_truth (pe_fld (pv 1) rfl) (by intro _; rfl)) (pw_and1 (pt_val (pe_c c_is_own_name hr (by decide) (by rfl) (pa_cons (pv 0) pa_nil))))))
   (pss_one (ps_ret (pe_op op_add_str (pv 0) (pe_fld (pv 1) rfl))))
   pss_nil)
  (pss_one ps_never))), ?_⟩
    refine ⟨_, rfl, a, rfl, Nat.le_trans hz (by decide), hT, _, rfl, ?_⟩
    rcases hN with ⟨e, rfl⟩ | ⟨e, h1, h2, rfl⟩
    · rw [e]
      exact iteT ⟨_, rfl, k⟩
    · rw [e]
      refine iteF ?_
      refine ⟨_, rfl, A.x, C, A.dx, ff A F, _, rfl, hF.x, M'.cl, M'.own, rfl, ?_⟩
      refine ⟨true, ⟨Nat.le_trans hz2 (by decide), (own_truth h1).symm⟩, ?_⟩
      refine iteT ⟨_, rfl, a, rfl, Nat.le_trans hz (by decide), hT, _, rfl, ?_⟩
      rw [h2]
      refine iteT ⟨_, rfl, _, rfl, A.x, C, A.dx, ff A F, _, rfl, hF.x, M'.cl, M'.own, rfl, a, F.own, rfl, rfl, ?_, k⟩
      exact Nat.le_trans (Nat.add_le_add hz hz2) (by decide)
end
end Rs
/-! sums.py: the parts of a sum -/
namespace Rs
open PySem PySem.Spec PyProof.Rows L2 C8
def PtsAt (H : Hp) (ts : List Addr) (L : List Pp) : Prop := ts.length = L.length ∧ ∀ (i : Nat) (t : Addr) (e : Pp), ts[i]? = some t → L[i]? = some e → H t = some (.tup [.int e.1, kV e.2])
def SmAt (H : Hp) (t : Addr) (L : List Pp) : Prop := ∃ us : List Addr, H t = some (.tup (us.map V.ref)) ∧ PtsAt H us L
theorem PtsAt.mono {H H' : Hp} {ts : List Addr} {L : List Pp} (h : PtsAt H ts L) (k : ∀ q xs, H q = some (.tup xs) → H' q = some (.tup xs)) : PtsAt H' ts L := ⟨h.1, fun i t e h1 h2 => k _ _ (h.2 i t e h1 h2)⟩
theorem PtsAt.one {H : Hp} {t : Addr} {e : Pp} (h : H t = some (.tup [.int e.1, kV e.2])) : PtsAt H [t] [e] := ⟨rfl, fun i u f h1 h2 => by
  cases i with
  | zero =>
    cases h1
    cases h2
    exact h
  | succ n => cases h1⟩
theorem SmAt.mono {H H' : Hp} {t : Addr} {L : List Pp} (h : SmAt H t L) (k : Same H H') : SmAt H' t L := by
  obtain ⟨us, h1, h2⟩ := h
  exact ⟨us, k _ _ h1, h2.mono fun q xs e => k _ _ e⟩
/-- what comes to stand where a part is written -/
def PartIs (H : Hp) (F : Fv) (a : Str) (L : List Pp) : Prop :=
  (isFigures a = true ∧ ∃ n : Int, PySem.intText? a = some n ∧ L = [(1, Sum.inl n)]) ∨ (isFigures a = false ∧ a = "here" ∧ L = [(1, Sum.inr ("here" : Str))]) ∨
  (isFigures a = false ∧ a ≠ "here" ∧ valV F.boxes (Sum.inr a) = none ∧ ((∃ t, valV F.sums (Sum.inr a) = some (.ref t) ∧ SmAt H t L) ∨ (valV F.sums (Sum.inr a) = none ∧ ∃ n, NameIs F a n ∧ L = [(1, Sum.inr n)])))
section
variable {P : Program} {w : World} {K : PySem.W.Frag} {mg : Str → Option Value} {base : Heap} {C : Addr}
def spPartOf (K : PySem.W.Frag) (C : Addr) : Sp := fun vs H Q _ => ∃ (a : Str) (L : List Pp) (A : Fd) (F : Fv), vs = [.str a, .ref A.x] ∧ a.length ≤ 640 ∧ F.own.length ≤ 100000 ∧ Tabs K H ∧ FAt C H A F ∧ PartIs H F a L ∧ ∀ (H' : Hp) (t : Addr), Same H H' → SmAt H' t L → Q (.ref t) H'
theorem ok_part_of (D : DefAt K mg "part_of" sD_part_of) (T : Txt w K mg) (M' : TxtF K C) (c_is_figures : Cal P w K mg base 1 "is_figures" (spFigures K) []) (c_name_of : Cal P w K mg base 3 "name_of" (spNameOf K C) []) : Cal P w K mg base 4 "part_of" (spPartOf K C) [] := by
  refine cal_of D sc_part_of (fun _ _ _ _ _ _ us hl => match us, hl with | [_, _], _ => rfl) (fun vs H Q E h => ?_) (fun cdv Ar outer s H vs Q E hr h => ?_)
  · obtain ⟨a, L, A, F, rfl, _⟩ := h
    rfl
  · obtain ⟨a, L, A, F, rfl, hz, hz2, hT, hF, hP, k⟩ := h
    refine ⟨_, (pss_cons (ps_if (pt_val (pe_c c_is_figures hr (by decide) (by rfl) (pa_cons (pv 0) pa_nil)))
   (pss_one (ps_ret (pe_tup (pa_cons (pe_tup (pa_cons pe_int (pa_cons (pe_callTy call_int_str (by rfl) T.free_int (by decide +kernel) (pa_cons (pv 0) pa_nil)) pa_nil))) pa_nil))))
   pss_nil)
  (pss_cons (ps_if (pt_cmpR op_eq (pv 0) pe_str (nomark _))
   (pss_one (ps_ret (pe_tup (pa_cons (pe_tup (pa_cons pe_int (pa_cons pe_str pa_nil))) pa_nil))))
   pss_nil)
  (pss_cons (ps_if (pt_cmp (pc_din (hu_of hr) (pv 0) (pe_fld (pv 1) rfl)))
   (pss_one ps_never)
   pss_nil)
  (pss_cons (ps_if (pt_cmp (pc_din (hu_of hr) (pv 0) (pe_fld (pv 1) rfl)))
   (pss_one (ps_ret (pe_dget (hu_of hr) (pe_fld (pv 1) rfl) (pv 0) (fun _ _ => rfl))))
   pss_nil)
  (pss_one (ps_ret (pe_tup (pa_cons (pe_tup (pa_cons pe_int (pa_cons (pe_c c_name_of hr (by decide) (by rfl) (pa_cons (pv 0) (pa_cons (pv 1) pa_nil))) pa_nil))) pa_nil)))))))), ?_⟩
    have one : ∀ (v : Key) (R : L = [(1, v)]) (t : Addr) (ht : H t = none) (u : Addr) (hu : upd H t (.tup [.int 1, kV v]) u = none), Q (.ref u) (upd (upd H t (.tup [.int 1, kV v])) u (.tup [.ref t])) := fun v R t ht u hu => by
      refine k _ u ((Same.new ht).add hu) ⟨[t], upd_same, ?_⟩
      rw [R]
      exact PtsAt.one ((upd_ne (ne_of_none upd_same hu)).trans upd_same)
    refine ⟨_, rfl, a, rfl, Nat.le_trans hz (by decide), hT, _, rfl, ?_⟩
    rcases hP with ⟨e, n, hn, hL⟩ | ⟨e, rfl, hL⟩ | ⟨e, nh, nb, hP⟩
    · rw [e]
      refine iteT ⟨_, rfl, a, n, rfl, hn, hz, (by show 2 ≤ sizeLine; decide), fun t ht => ⟨(by show 1 ≤ sizeLine; decide), fun u hu => one (Sum.inl n) hL t ht u hu⟩⟩
    · rw [e]
      refine iteF ⟨_, rfl, rfl, _, rfl, ?_⟩
      rw [decide_eq_true rfl]
      exact iteT ⟨(by show 2 ≤ sizeLine; decide), fun t ht => ⟨(by show 1 ≤ sizeLine; decide), fun u hu => one (Sum.inr ("here" : Str)) hL t ht u hu⟩⟩
    · rw [e]
      refine iteF ⟨_, rfl, rfl, _, rfl, ?_⟩
      rw [decide_eq_false (fun z => nh (V.str.inj z))]
      refine iteF ?_
      refine ⟨_, rfl, _, rfl, A.x, C, A.dx, ff A F, _, rfl, hF.x, M'.cl, M'.boxes, rfl, A.b, _, rfl, DGet.k (k := Sum.inr a) hF.b, _, rfl, ?_⟩
      rw [nb]
      refine iteF ?_
      refine ⟨_, rfl, _, rfl, A.x, C, A.dx, ff A F, _, rfl, hF.x, M'.cl, M'.sums, rfl, A.s, _, rfl, DGet.k (k := Sum.inr a) hF.s, _, rfl, ?_⟩
      rcases hP with ⟨t, z, hS⟩ | ⟨z, n, hN, hL⟩
      · rw [z]
        refine iteT ⟨_, rfl, A.x, C, A.dx, ff A F, _, rfl, hF.x, M'.cl, M'.sums, rfl, _, rfl, A.s, _, rfl, ?_, k _ t (Same.refl _) hS⟩
        have := DGet.k (k := Sum.inr a) hF.s
        rw [z] at this
        exact this
      · rw [z]
        refine iteF ⟨_, rfl, _, rfl, a, n, A, F, rfl, Nat.le_trans hz (by decide), hz2, hT, hF, hN, ?_⟩
        exact ⟨(by show 2 ≤ sizeLine; decide), fun t ht => ⟨(by show 1 ≤ sizeLine; decide), fun u hu => one (Sum.inr n) hL t ht u hu⟩⟩
end
def wOf (kvs : List (Key × V)) (here : Int) : Key → Int
  | .inl n => n
  | .inr n => if n = ("here" : Str) then here else match valV kvs (Sum.inr n) with
    | some (.int x) => x
    | _ => 0
/-- what a sum comes to -/
def worthGo (kvs : List (Key × V)) (here : Int) : List Pp → Int → Int
  | [], tot => tot
  | e :: r, tot => worthGo kvs here r (tot + e.1 * wOf kvs here e.2)
def worthOf (kvs : List (Key × V)) (here : Int) (L : List Pp) : Int := worthGo kvs here L 0
theorem worthGo_nil {kvs : List (Key × V)} {here tot : Int} : worthGo kvs here [] tot = tot := rfl
theorem worthGo_cons {kvs : List (Key × V)} {here tot : Int} {e : Pp} {r : List Pp} : worthGo kvs here (e :: r) tot = worthGo kvs here r (tot + e.1 * wOf kvs here e.2) := rfl
/-- its names are all known -/
def Known (kvs : List (Key × V)) (L : List Pp) : Prop := ∀ e ∈ L, (e.1 = 1 ∨ e.1 = -1) ∧ ∀ n : Str, e.2 = Sum.inr n → n ≠ ("here" : Str) → ∃ x : Int, valV kvs (Sum.inr n) = some (.int x)
section
variable {P : Program} {w : World} {K : PySem.W.Frag} {mg : Str → Option Value} {base : Heap}
def spWorth : Sp := fun vs H Q _ => ∃ (t d : Addr) (here : Int) (L : List Pp) (kvs : List (Key × V)), vs = [.ref t, .int here, .ref d] ∧ SmAt H t L ∧ H d = some (.dK kvs) ∧ Known kvs L ∧ Q (.int (worthOf kvs here L)) H
theorem ok_worth_of (D : DefAt K mg "worth_of" sD_worth_of) (T : Txt w K mg) : Cal P w K mg base 1 "worth_of" spWorth [] := by
  refine cal_of D sc_worth_of (fun _ _ _ _ _ _ us hl => match us, hl with | [_, _, _], _ => rfl) (fun vs H Q E h => ?_) (fun cdv Ar outer s H vs Q E hr h => ?_)
  · obtain ⟨t, d, here, L, kvs, rfl, _⟩ := h
    rfl
  · obtain ⟨t, d, here, L, kvs, rfl, ⟨us, ht, hL⟩, hd, hK, k⟩ := h
    refine ⟨_, (pss_cons (ps_set (i := 3) sc_worth_of.nd rfl (Or.inl rfl) pe_int)
  (pss_cons (ps_for PassesOwn.never rfl (pi_tup (pv 0)) (pg_tup rfl (pgs_cons (pg_name (i := 4) sc_worth_of.nd rfl (Or.inl rfl)) (pgs_cons (pg_name (i := 5) sc_worth_of.nd rfl (Or.inl rfl)) pgs_nil)))
   (pss_one (ps_if (pt_cmpR op_eq (pv 5) pe_str (nomark _))
   (pss_one (ps_aug (i := 3) sc_worth_of.nd rfl (.inl rfl) (pe_op op_mul (pv 4) (pv 1)) ip_add))
   (pss_one (ps_if (pt_val (pe_callB call_isi (by rfl) T.free_isinstance (by decide +kernel) (pa_cons (pv 5) (pa_cons (pe_bltn (by rfl) T.free_str (by decide +kernel) (v := .ty "str") rfl) pa_nil))))
   (pss_one (ps_aug (i := 3) sc_worth_of.nd rfl (.inl rfl) (pe_op op_mul (pv 4) (pe_dget (hu_of hr) (pv 2) (pv 5) (fun _ _ => rfl))) ip_add))
   (pss_one (ps_aug (i := 3) sc_worth_of.nd rfl (.inl rfl) (pe_op op_mul (pv 4) (pv 5)) ip_add)))))))
  (pss_one (ps_ret (pv 3))))), ?_⟩
    refine ⟨_, rfl, t, rfl, ⟨_, SqT.of ht⟩, for_it (walk_tup (K := K) (a := t) (xs := us.map V.ref)) (fun i σ H' => H' = H ∧ ∃ (tot : Int) (x4 x5 : Option V), σ = [some (.ref t), some (.int here), some (.ref d), some (.int tot), x4, x5] ∧ worthGo kvs here (L.drop i) tot = worthOf kvs here L) ⟨rfl, _, _, _, rfl, rfl⟩ (fun i σ H' _ z => by rw [z.1]; exact SqT.of ht) ?_ ?_⟩
    · rintro i x σ H1 H2 hi ⟨rfl, tot, x4, x5, rfl, he⟩ ⟨rfl, hx⟩
      rw [List.getElem?_map] at hx
      cases eu : us[i]? with
      | none =>
        rw [eu] at hx
        cases hx
      | some u =>
        rw [eu] at hx
        cases hx
        have hi2 : i < L.length := by
          rw [← hL.1]
          exact (List.getElem?_eq_some_iff.mp eu).1
        have ee := List.getElem?_eq_getElem hi2
        rw [List.drop_eq_getElem_cons hi2, worthGo_cons] at he
        have hu := hL.2 i u _ eu ee
        have hKe := hK _ (List.getElem_mem hi2)
        generalize L[i] = e at he hu hKe
        obtain ⟨sg, ky⟩ := e
        have hm : ∀ j : Int, CMul sg j := fun j => .inl (by
          rcases hKe.1 with z | z
          · have z' : sg = 1 := z
            rw [z']
            decide
          · have z' : sg = -1 := z
            rw [z']
            decide)
        refine ⟨u, _, rfl, SqT.of hu, rfl, _, _, rfl, ?_⟩
        cases ky with
        | inl n =>
          refine ⟨_, _, rfl, rfl, ?_⟩
          refine ⟨_, rfl, rfl, _, rfl, ?_⟩
          rw [decide_eq_false (fun z => by cases z)]
          refine iteF ?_
          refine ⟨_, rfl, _, _, _, _, false, rfl, .ty _, .base (.int _), kit_ty (by decide +kernel), false, rfl, iteF ?_⟩
          exact ⟨_, rfl, _, rfl, _, rfl, sg, n, rfl, rfl, hm n, tot, _, rfl, rfl, rfl, _, _, _, rfl, he⟩
        | inr n =>
          refine ⟨_, _, rfl, rfl, ?_⟩
          refine ⟨_, rfl, rfl, _, rfl, ?_⟩
          by_cases q : n = ("here" : Str)
          · rw [show decide (kV (sg, (Sum.inr n : Key)).2 = V.str "here") = true from decide_eq_true (congrArg V.str q)]
            refine iteT ?_
            rw [show wOf kvs here (Sum.inr n) = here from if_pos q] at he
            exact ⟨_, rfl, _, rfl, _, rfl, sg, here, rfl, rfl, hm here, tot, _, rfl, rfl, rfl, _, _, _, rfl, he⟩
          · rw [show decide (kV (sg, (Sum.inr n : Key)).2 = V.str "here") = false from decide_eq_false (fun z => q (V.str.inj z))]
            refine iteF ?_
            refine ⟨_, rfl, _, _, _, _, true, rfl, .ty _, .base (.str _), kit_ty (by decide +kernel), true, rfl, iteT ?_⟩
            obtain ⟨x, hx⟩ := hKe.2 n rfl q
            have hw : wOf kvs here (Sum.inr n) = x := by
              show (if n = ("here" : Str) then here else match valV kvs (Sum.inr n) with | some (.int x) => x | _ => 0) = x
              rw [if_neg q, hx]
            rw [hw] at he
            refine ⟨_, rfl, _, rfl, _, rfl, _, rfl, d, _, rfl, ?_, sg, x, rfl, rfl, hm x, tot, _, rfl, rfl, rfl, _, _, _, rfl, he⟩
            have := DGet.k (k := Sum.inr n) hd
            rw [hx] at this
            exact this
    · rintro σ H1 ⟨rfl, tot, x4, x5, rfl, he⟩
      rw [List.length_map, hL.1, List.drop_length, worthGo_nil] at he
      exact ⟨_, rfl, by rw [he]; exact k⟩
end
end Rs
/-! sums.py: sum_of -/
namespace Rs
open PySem PySem.Spec PyProof.Rows L2 C8
theorem PtsAt.nil {H : Hp} : PtsAt H [] [] := ⟨rfl, fun i t e h => by cases h⟩
theorem PtsAt.snoc {H : Hp} {ts : List Addr} {L : List Pp} {t : Addr} {e : Pp} (h : PtsAt H ts L) (ht : H t = some (.tup [.int e.1, kV e.2])) : PtsAt H (ts ++ [t]) (L ++ [e]) := by
  refine ⟨by simp [h.1], fun i u f h1 h2 => ?_⟩
  by_cases hi : i < ts.length
  · rw [List.getElem?_append_left hi] at h1
    rw [List.getElem?_append_left (by rw [← h.1]; exact hi)] at h2
    exact h.2 i u f h1 h2
  · rw [List.getElem?_append_right (Nat.le_of_not_lt hi)] at h1
    rw [List.getElem?_append_right (by rw [← h.1]; exact Nat.le_of_not_lt hi), ← h.1] at h2
    cases q : i - ts.length with
    | zero =>
      rw [q] at h1 h2
      cases h1
      cases h2
      exact ht
    | succ n =>
      rw [q] at h1
      cases h1
theorem split_sign : ∀ (l : List Nat) (sign : Int) (part : Str) (acc : List Pc), (sign = 1 ∨ sign = -1) → (∀ e ∈ acc, e.1 = 1 ∨ e.1 = -1) → ∀ e ∈ splitGo l sign part acc, e.1 = 1 ∨ e.1 = -1
  | [], sign, part, acc, h, ha, e, he => by
    rw [splitGo_nil] at he
    rcases List.mem_append.mp he with z | z
    · exact ha e z
    · rw [List.mem_singleton.mp z]
      exact h
  | c :: r, sign, part, acc, h, ha, e, he => by
    rw [splitGo_cons] at he
    by_cases q : c = 43 ∨ c = 45
    · rw [if_pos q] at he
      refine split_sign r _ _ _ ?_ (fun f hf => ?_) e he
      · by_cases q5 : c = 45
        · exact .inr (if_pos q5)
        · exact .inl (if_neg q5)
      · rcases List.mem_append.mp hf with z | z
        · exact ha f z
        · rw [List.mem_singleton.mp z]
          exact h
    · rw [if_neg q] at he
      exact split_sign r _ _ _ h ha e he
theorem splitSum_sign (a : Str) : ∀ e ∈ splitSum a, e.1 = 1 ∨ e.1 = -1 := by
  refine split_sign _ _ _ _ ?_ (fun e he => by cases he)
  by_cases q : Txt.startswith a "-" = true
  · exact .inr (if_pos q)
  · exact .inl (if_neg q)
def sumGo : List Pc → List (List Pp) → List Pp
  | e :: r, Li :: s => scaled e.1 Li ++ sumGo r s
  | _, _ => []
theorem sumGo_cons {e : Pc} {r : List Pc} {Li : List Pp} {s : List (List Pp)} : sumGo (e :: r) (Li :: s) = scaled e.1 Li ++ sumGo r s := rfl
theorem PartIs.mono {H H' : Hp} {F : Fv} {a : Str} {L : List Pp} (h : PartIs H F a L) (k : Same H H') : PartIs H' F a L := by
  rcases h with z | z | ⟨z1, z2, z3, z4⟩
  · exact .inl z
  · exact .inr (.inl z)
  · refine .inr (.inr ⟨z1, z2, z3, ?_⟩)
    rcases z4 with ⟨t, y1, y2⟩ | y
    · exact .inl ⟨t, y1, y2.mono k⟩
    · exact .inr y
/-- the sum that a word is, by what its parts come to -/
structure SumIs (H : Hp) (F : Fv) (a : Str) (Ls : List (List Pp)) : Prop where
  len : Ls.length = (splitSum a).length
  each : ∀ (i : Nat) (e : Pc) (Li : List Pp), (splitSum a)[i]? = some e → Ls[i]? = some Li → e.2.length ≤ 640 ∧ PartIs H F e.2 Li
  few : (sumGo (splitSum a) Ls).length ≤ 24
section
variable {P : Program} {w : World} {K : PySem.W.Frag} {mg : Str → Option Value} {base : Heap} {C : Addr}
def spSumOf (K : PySem.W.Frag) (C : Addr) : Sp := fun vs H Q _ => ∃ (a : Str) (Ls : List (List Pp)) (A : Fd) (F : Fv), vs = [.str a, .ref A.x] ∧ a.length ≤ 100000 ∧ F.own.length ≤ 100000 ∧ Tabs K H ∧ FAt C H A F ∧ SumIs H F a Ls ∧ ∀ (H' : Hp) (t : Addr), Same H H' → SmAt H' t (sumGo (splitSum a) Ls) → Q (.ref t) H'
theorem ok_sum_of (D : DefAt K mg "sum_of" sD_sum_of) (T : Txt w K mg) (c_split_sum : Cal P w K mg base 1 "split_sum" spSplit []) (c_part_of : Cal P w K mg base 4 "part_of" (spPartOf K C) []) : Cal P w K mg base 5 "sum_of" (spSumOf K C) [] := by
  refine cal_of D sc_sum_of (fun _ _ _ _ _ _ us hl => match us, hl with | [_, _], _ => rfl) (fun vs H Q E h => ?_) (fun cdv Ar outer s H vs Q E hr h => ?_)
  · obtain ⟨a, Ls, A, F, rfl, _⟩ := h
    rfl
  · obtain ⟨a, Ls, A, F, rfl, hz, hz2, hT, hF, hS, k⟩ := h
    refine ⟨_, (pss_cons (ps_set (i := 2) sc_sum_of.nd rfl (Or.inl rfl) (pe_lst pa_nil))
  (pss_cons (ps_for PassesOwn.never rfl (pi_list (pe_c c_split_sum hr (by decide) (by rfl) (pa_cons (pv 0) pa_nil))) (pg_tup rfl (pgs_cons (pg_name (i := 3) sc_sum_of.nd rfl (Or.inl rfl)) (pgs_cons (pg_name (i := 4) sc_sum_of.nd rfl (Or.inl rfl)) pgs_nil)))
   (pss_one (ps_for PassesOwn.never rfl (pi_tup (pe_c c_part_of hr (by decide) (by rfl) (pa_cons (pv 4) (pa_cons (pv 1) pa_nil)))) (pg_tup rfl (pgs_cons (pg_name (i := 5) sc_sum_of.nd rfl (Or.inl rfl)) (pgs_cons (pg_name (i := 6) sc_sum_of.nd rfl (Or.inl rfl)) pgs_nil)))
   (pss_one (ps_expr (pe_bm PySem.F.plainAttrs_list PySem.F.slot_list_append PySem.F.type_list_append mt_append (pv 2) (pa_cons (pe_tup (pa_cons (pe_op op_mul (pv 3) (pv 5)) (pa_cons (pv 6) pa_nil))) pa_nil)))))))
  (pss_cons (ps_if (pt_cmpR op_gt (pe_callB call_len_seq (by rfl) T.free_len (by decide +kernel) (pa_cons (pv 2) pa_nil)) (pe_gI (by rfl) T.g_PARTS_MOST) (nomark _))
   (pss_one ps_never)
   pss_nil)
  (pss_one (ps_ret (pe_callTy call_tuple_of (by rfl) T.free_tuple (by decide +kernel) (pa_cons (pv 2) pa_nil))))))), ?_⟩
    refine ⟨Nat.zero_le _, fun l hl0 => ?_⟩
    refine ⟨_, rfl, a, rfl, hz, fun H1 p ts s1 hp0 hp hpc => ?_⟩
    have hl1 : H1 l = some (.lst []) := s1 _ _ upd_same
    have nlp : l ≠ p := ne_of_none upd_same hp0
    have s01 : Same H H1 := (Same.new hl0).trans s1
    have sgn := splitSum_sign a
    have each := hS.each
    have few := hS.few
    have len := hS.len
    generalize splitSum a = Sp at hpc sgn each few len k
    refine ⟨p, rfl, ⟨_, SqL.of hp⟩, for_it (walk_list (K := K) (a := p) (xs := ts.map V.ref)) (fun i σ H' => ∃ (acc : List Pp) (us : List Addr) (x3 x4 x5 x6 : Option V), σ = [some (.str a), some (.ref A.x), some (.ref l), x3, x4, x5, x6] ∧ (∀ q o, H1 q = some o → q ≠ l → H' q = some o) ∧ H' l = some (.lst (us.map V.ref)) ∧ PtsAt H' us acc ∧ acc ++ sumGo (Sp.drop i) (Ls.drop i) = sumGo Sp Ls) ⟨[], [], _, _, _, _, rfl, fun q o e _ => e, hl1, PtsAt.nil, rfl⟩ (fun i σ H' _ ⟨_, _, _, _, _, _, _, z, _⟩ => SqL.of (z _ _ hp nlp.symm)) ?_ ?_⟩
    · rintro i x σ H2 H3 hi ⟨acc, us, x3, x4, x5, x6, rfl, k2, hl2, hA, he⟩ ⟨rfl, hx⟩
      rw [List.getElem?_map] at hx
      cases et : ts[i]? with
      | none =>
        rw [et] at hx
        cases hx
      | some u =>
        rw [et] at hx
        cases hx
        have hi2 : i < Sp.length := by
          rw [← hpc.1]
          exact (List.getElem?_eq_some_iff.mp et).1
        have hi3 : i < Ls.length := by
          rw [len]
          exact hi2
        have ee := List.getElem?_eq_getElem hi2
        have eL := List.getElem?_eq_getElem hi3
        rw [List.drop_eq_getElem_cons hi2, List.drop_eq_getElem_cons hi3, sumGo_cons] at he
        have hu := hpc.2 i u _ et ee
        obtain ⟨hz4, hPa⟩ := each i _ _ ee eL
        have hsg := sgn _ (List.getElem_mem hi2)
        generalize Sp[i] = e at he hu hPa hz4 hsg
        generalize Ls[i] = Li at he hPa
        obtain ⟨sg, wr⟩ := e
        have nul : u ≠ l := fun z => by
          rw [z, hl1] at hu
          cases hu
        have s03 : Same H H3 := fun q o e => k2 q o (s01 q o e) (ne_of_none e hl0)
        refine ⟨u, _, rfl, SqT.of (k2 _ _ hu nul), rfl, _, _, rfl, _, _, rfl, rfl, ?_⟩
        refine ⟨_, rfl, _, rfl, wr, Li, A, F, rfl, hz4, hz2, hT.same s03, hF.same s03, hPa.mono s03, fun H4 t s34 hSm => ?_⟩
        obtain ⟨vs, ht, hPt⟩ := hSm
        have hl4 := s34 _ _ hl2
        have hA4 := hA.mono (fun q xs e => s34 _ _ e)
        have ntl : t ≠ l := fun z => by
          rw [z, hl4] at ht
          cases ht
        have hm : ∀ j : Int, CMul sg j := fun j => .inl (by
          rcases hsg with z | z
          · have z' : sg = 1 := z
            rw [z']
            decide
          · have z' : sg = -1 := z
            rw [z']
            decide)
        refine ⟨t, rfl, ⟨_, SqT.of ht⟩, for_it (walk_tup (K := K) (a := t) (xs := vs.map V.ref)) (fun j σ H' => ∃ (acc : List Pp) (us : List Addr) (x5 x6 : Option V), σ = [some (.str a), some (.ref A.x), some (.ref l), some (.int sg), some (.str wr), x5, x6] ∧ (∀ q o, H4 q = some o → q ≠ l → H' q = some o) ∧ H' l = some (.lst (us.map V.ref)) ∧ PtsAt H' us acc ∧ acc ++ (scaled sg (Li.drop j) ++ sumGo (Sp.drop (i + 1)) (Ls.drop (i + 1))) = sumGo Sp Ls) ⟨acc, us, _, _, rfl, fun q o e _ => e, hl4, hA4, he⟩ (fun j σ H' _ ⟨_, _, _, _, _, z, _⟩ => SqT.of (z _ _ ht ntl)) ?_ ?_⟩
        · rintro j x σ H5 H6 hj ⟨acc, us, x5, x6, rfl, k5, hl5, hA5, he5⟩ ⟨rfl, hx⟩
          rw [List.getElem?_map] at hx
          cases ev : vs[j]? with
          | none =>
            rw [ev] at hx
            cases hx
          | some v =>
            rw [ev] at hx
            cases hx
            have hj2 : j < Li.length := by
              rw [← hPt.1]
              exact (List.getElem?_eq_some_iff.mp ev).1
            have ee2 := List.getElem?_eq_getElem hj2
            rw [List.drop_eq_getElem_cons hj2] at he5
            have hv := hPt.2 j v _ ev ee2
            generalize Li[j] = f at he5 hv
            obtain ⟨inn, ky⟩ := f
            have nvl : v ≠ l := fun z => by
              rw [z, hl4] at hv
              cases hv
            have hle : acc.length ≤ 24 := by
              have := congrArg List.length he5
              rw [List.length_append] at this
              omega
            refine ⟨v, _, rfl, SqT.of (k5 _ _ hv nvl), rfl, _, _, rfl, _, _, rfl, rfl, ?_⟩
            refine ⟨_, rfl, .inl ⟨rfl, _, SqL.of hl5⟩, _, rfl, _, rfl, sg, inn, rfl, rfl, hm inn, _, rfl, (by show 2 ≤ sizeLine; decide), fun t2 ht2 => ?_⟩
            have nlt : l ≠ t2 := ne_of_none hl5 ht2
            refine ⟨l, _, _, rfl, rfl, (upd_ne nlt).trans hl5, ?_, ?_⟩
            · rw [List.length_map, hA5.1]
              exact Nat.lt_of_le_of_lt hle (by decide)
            refine ⟨acc ++ [(sg * inn, ky)], us ++ [t2], _, _, rfl, fun q o e n => ?_, ?_, ?_, ?_⟩
            · rw [upd_ne n, upd_ne (ne_of_none (k5 q o e n) ht2)]
              exact k5 q o e n
            · rw [upd_same, List.map_append] <;> rfl
            · refine PtsAt.snoc (hA5.mono fun q xs e => ?_) ((upd_ne nlt.symm).trans upd_same)
              have n1 : q ≠ l := fun z => by
                rw [z, hl5] at e
                cases e
              rw [upd_ne n1, upd_ne (ne_of_none e ht2)]
              exact e
            · rw [← he5, List.append_assoc] <;> rfl
        · rintro σ H5 ⟨acc, us, x5, x6, rfl, k5, hl5, hA5, he5⟩
          rw [List.length_map, hPt.1, List.drop_length] at he5
          exact ⟨acc, us, _, _, _, _, rfl, fun q o e n => k5 q o (s34 q o (k2 q o e n)) n, hl5, hA5, he5⟩
    · rintro σ H2 ⟨acc, us, x3, x4, x5, x6, rfl, k2, hl2, hA, he⟩
      rw [List.length_map, hpc.1, List.drop_length, ← len, List.drop_length] at he
      have he2 : acc = sumGo Sp Ls := by
        rw [← he]
        exact (List.append_nil _).symm
      refine ⟨_, rfl, l, _, rfl, .inl (SqL.of hl2), _, _, rfl, rfl, _, rfl, ?_⟩
      rw [decide_eq_false (show ¬ (24 : Int) < ((us.map V.ref).length : Int) by rw [List.length_map, hA.1, he2]; omega)]
      refine iteF ?_
      refine ⟨_, rfl, l, _, rfl, .inl ⟨SqL.of hl2, fun t ht => k _ t (fun q o e => ?_) ⟨us, upd_same, ?_⟩⟩⟩
      · have e2 := k2 q o (s01 q o e) (ne_of_none e hl0)
        rw [upd_ne (ne_of_none e2 ht)]
        exact e2
      · rw [← he2]
        exact hA.mono fun q xs e => (upd_ne (ne_of_none e ht)).trans e
end
end Rs
/-! reading.py: the words of a row -/
namespace Rs
open PySem PySem.Spec PyProof.Rows L2 C8
def tTruK (K : PySem.W.Frag) (ta : TE) : TT := fun σ H Q => ta σ H fun x H' => ∃ k, TruV K x H' k ∧ Q k H'
theorem pt_truthK {X : Cx} {a : Expr} {ta : TE} (K : PySem.W.Frag) (hK : X.K = K) (ha : PE X a ta) (he : ∀ whole, isTrue a X.env whole = (do let v ← whole; standAt a.pos; holding [v] (truthy v))) : PT X a (tTruK K ta) := by
  subst hK
  exact pt_truth ha he
section
variable {P : Program} {w : World} {K : PySem.W.Frag} {mg : Str → Option Value} {base : Heap} {C : Addr}
def spSplitRow : Sp := fun vs H Q _ => ∃ a : Str, vs = [.str a] ∧ a.length ≤ 100000 ∧ (Txt.partition a ";").1.length ≤ 100000 ∧ (Txt.split (Txt.partition a ";").1 " ").length ≤ 100001 ∧ (∀ y ∈ Txt.split (Txt.partition a ";").1 " ", y.length ≤ 100000) ∧ ∀ (H' : Hp) (p : Addr), Same H H' → H p = none → H' p = some (.lst ((rowWords a).map V.str)) → Q (.ref p) H'
theorem ok_split_row (D : DefAt K mg "split_row" sD_split_row) (T : Txt w K mg) : Cal P w K mg base 1 "split_row" spSplitRow [] := by
  refine cal_of D sc_split_row (fun _ _ _ _ _ _ us hl => match us, hl with | [_], _ => rfl) (fun vs H Q E h => ?_) (fun cdv Ar outer s H vs Q E hr h => ?_)
  · obtain ⟨a, rfl, _⟩ := h
    rfl
  · obtain ⟨a, rfl, hz, hz1, hz2, hz3, k⟩ := h
    refine ⟨_, (pss_one (ps_ret (pe_lc (own := [("word", 1)]) (g := gName 1) (by rfl) sc_split_row.nd (pi_list (pe_bm PySem.F.plainAttrs_str PySem.F.slot_str_split PySem.F.type_str_split mt_split (pe_ix ix_tup (pe_bm PySem.F.plainAttrs_str PySem.F.slot_str_partition PySem.F.type_str_partition mt_partition (pv 0) (pa_cons pe_str pa_nil)) pe_int (fun _ _ => rfl)) (pa_cons pe_str pa_nil))) (blkOk_by (own := [("word", 1)]) (N := N_split_row) (sc := defScope sD_split_row) (by decide +kernel)) (fun _ _ _ _ _ => (pg_name (i := 1) sc_split_row.nd rfl (Or.inl rfl))) (fun _ _ _ _ _ => (pts_one (pt_truthK K rfl (pv 1) (by intro _; rfl)))) (fun _ _ _ _ _ => (pv 1))))), ?_⟩
    refine ⟨_, rfl, (rfl : ("str" : String) = "str"), a, _, rfl, rfl, rfl, Nat.le_trans hz (by decide), fun p hp => ?_⟩
    refine ⟨p, _, _, _, rfl, rfl, SqT.of upd_same, atI_nat (j := 0) rfl, (rfl : ("str" : String) = "str"), ?_⟩
    have s1 : Same H (upd H p (.tup [V.str (Txt.partition a ";").1, V.str (Txt.partition a ";").2.1, V.str (Txt.partition a ";").2.2])) := Same.new hp
    generalize upd H p (.tup [V.str (Txt.partition a ";").1, V.str (Txt.partition a ";").2.1, V.str (Txt.partition a ";").2.2]) = H1 at s1 ⊢
    refine ⟨_, _, rfl, rfl, rfl, Nat.le_trans (Nat.add_le_add_right hz1 2) (by decide), fun q hq => ⟨q, rfl, ⟨_, SqL.of upd_same⟩, fun Dl hD => ?_⟩⟩
    unfold rowWords at k
    generalize Txt.split (Txt.partition a ";").1 " " = ys at hz2 hz3 k hD ⊢
    have s2 := s1.add (o := .lst (ys.map V.str)) hq
    have hq2 : upd H1 q (.lst (ys.map V.str)) q = some (.lst (ys.map V.str)) := upd_same
    generalize upd H1 q (.lst (ys.map V.str)) = H2 at s2 hq2 hD ⊢
    refine lc_list (K := K) (a := q) (xs := ys.map V.str) (fun i H' => Same H2 H' ∧ H' Dl = some (.lst (((ys.take i).filter full).map V.str))) ⟨Same.new hD, upd_same⟩ (fun i H' _ ⟨z, _⟩ => SqL.of (z _ _ hq2)) ?_ ?_
    · rintro i x H3 hx ⟨s3, h3⟩
      rw [List.getElem?_map] at hx
      cases ey : ys[i]? with
      | none =>
        rw [ey] at hx
        cases hx
      | some y =>
        rw [ey] at hx
        cases hx
        have hy : y ∈ ys := List.mem_of_getElem? ey
        refine ⟨rfl, _, rfl, full y, ⟨Nat.le_trans (hz3 y hy) (by decide), rfl⟩, ?_⟩
        have et : ys.take (i + 1) = ys.take i ++ [y] := by
          rw [List.take_succ, ey] <;> rfl
        cases ef : full y with
        | true =>
          refine iteT ⟨_, rfl, _, h3, ?_, s3.putNew hD, ?_⟩
          · rw [List.length_map]
            refine Nat.lt_of_le_of_lt (Nat.le_trans (List.length_filter_le _ _) ?_) (show 100001 < sizeLine by decide)
            rw [List.length_take]
            omega
          · rw [upd_same, et, List.filter_append, List.map_append, List.filter_cons_of_pos ef] <;> rfl
        | false =>
          refine iteF ⟨s3, ?_⟩
          rw [h3, et, List.filter_append, List.filter_cons_of_neg (by rw [ef]; decide)]
          simp
    · rintro H3 ⟨s3, h3⟩
      rw [List.length_map, List.take_length] at h3
      exact k _ Dl (s2.trans s3) (s2.free hD) h3
end
end Rs
namespace Rs
open PySem PySem.Spec PyProof.Rows L2 C8
section
variable {P : Program} {w : World} {K : PySem.W.Frag} {mg : Str → Option Value} {base : Heap}
def spBoxes : Sp := fun vs H Q _ => ∃ (c : Code) (n : Int), vs = [.str c.1.str, .int n] ∧ c ∈ codes ∧ ∀ H' b, Same H H' → H b = none → H' b = some (.lst (il (boxesOf c.2.1 c.2.2.1 n))) → Q (.ref b) H'
theorem ok_boxes_of (D : DefAt K mg "boxes_of" sD_boxes_of) (T : Txt w K mg) : Cal P w K mg base 1 "boxes_of" spBoxes [] := by
  refine cal_of D sc_boxes_of (fun _ _ _ _ _ _ us hl => match us, hl with | [_, _], _ => rfl) (fun vs H Q E h => ?_) (fun cdv A outer s H vs Q E hr h => ?_)
  · obtain ⟨c, n, rfl, _⟩ := h
    rfl
  · obtain ⟨c, n, rfl, cm, k⟩ := h
    refine ⟨_, (pss_cons (ps_asg (pe_ix ix_kdict (pe_gR (by rfl) T.g_OPS) (pv 0) (fun _ _ => rfl)) (pg_tup rfl (pgs_cons (pg_name (i := 2) sc_boxes_of.nd rfl (Or.inl rfl)) (pgs_cons (pg_name (i := 3) sc_boxes_of.nd rfl (Or.inl rfl)) (pgs_cons (pg_name (i := 4) sc_boxes_of.nd rfl (Or.inl rfl)) pgs_nil)))))
  (pss_cons (ps_if (pt_cmpR op_eq (pv 3) pe_int (nomark _))
   (pss_one (ps_ret (pe_lst (pa_cons (pe_op op_fdiv (pe_op op_sub (pv 1) (pv 2)) pe_int) (pa_cons (pe_op op_mod (pe_op op_sub (pv 1) (pv 2)) pe_int) pa_nil)))))
   pss_nil)
  (pss_one (ps_ret (pe_op op_rep (pe_lst (pa_cons (pe_op op_sub (pv 1) (pv 2)) pa_nil)) (pv 3)))))), ?_⟩
    obtain ⟨a, ha, hT⟩ := T.ops c cm
    obtain ⟨k1, k2, k3, k4⟩ := codes_ok c cm
    refine ⟨_, rfl, _, _, _, rfl, rfl, ha, a, _, rfl, hT _, rfl, _, _, rfl, _, _, rfl, _, _, rfl, rfl, ?_⟩
    generalize hm : c.2.2.1 = mm at k k4
    refine ⟨_, rfl, rfl, _, rfl, ?_⟩
    by_cases h2 : mm = 2
    · subst h2
      refine ite2 (fun _ => ?_) (fun q => absurd (decide_eq_true rfl) q)
      refine ⟨_, rfl, _, rfl, _, _, rfl, rfl, _, _, rfl, rfl, ⟨by decide, by decide⟩, _, rfl, _, rfl, _, _, rfl, rfl, _, _, rfl, rfl, (by show (0 : Int) < 4; decide), (by show 2 ≤ sizeLine; decide), fun b hb => ?_⟩
      exact k _ b (Same.new hb) hb upd_same
    · refine ite2 (fun q => absurd (V.int.inj (of_decide_eq_true q)) (by omega)) (fun _ => ?_)
      refine ⟨_, rfl, _, rfl, _, _, rfl, rfl, (by show 1 ≤ sizeLine; decide), fun p hp => ?_⟩
      refine ⟨_, rfl, p, _, _, rfl, rfl, upd_same, by omega, by omega, ?_, fun b hb => ?_⟩
      · have : mm ≤ 2 := k4
        have e : (((mm : Nat) : Int)).toNat = mm := by omega
        rw [e]
        have : ([V.int (n - c.2.1)] : List V).length * mm ≤ 2 := by simp; omega
        exact Nat.le_trans this (by decide)
      · have hb0 : H b = none := (Same.new (o := .lst [V.int (n - c.2.1)]) hp).free hb
        refine k _ b ((Same.new hp).add hb) hb0 ?_
        rw [upd_same]
        match mm, k4, h2 with
        | 0, _, _ => rfl
        | 1, _, _ => rfl
        | 2, _, h => exact absurd rfl h
def spRowAt (K : PySem.W.Frag) : Sp := fun vs H Q _ => ∃ (a : Addr) (ws : List Int) (p : Int), vs = [.ref a, .int p] ∧ SqL K H a (il ws) ∧ ws.length ≤ 256 ∧
  (rowAt ws p = none → Q .non H) ∧ ∀ r, rowAt ws p = some r → ∀ H' t b n, Same H H' → H t = none → H b = none → H n = none → H' t = some (.tup [.str r.k.str, .ref b, .ref n]) → H' b = some (.lst (il r.bx)) → H' n = some (.lst (il r.nm)) → Q (.ref t) H'
theorem cut_il {ws : List Int} {lo : Nat} (hi : Nat) (h : lo ≤ ws.length) : cutV (il ws) (some (lo : Int)) (some (hi : Int)) = il ((ws.drop lo).take (hi - lo)) := by
  unfold cutV il
  rw [HT.sIx_nat, HT.sIx_nat, List.length_map, ← List.map_drop, ← List.map_take]
  congr 1
  rw [Nat.min_eq_left h]
  by_cases h2 : hi ≤ ws.length
  · rw [Nat.min_eq_left h2]
  · rw [Nat.min_eq_right (by omega), List.take_of_length_le (by rw [List.length_drop]; omega), List.take_of_length_le (by rw [List.length_drop]; omega)]
theorem rowAt_in {ws : List Int} {p : Int} (hp : 0 ≤ p ∧ p < (ws.length : Int)) : rowAt ws p = (if 144 ≤ ws.getD p.toNat 0 ∧ ws.getD p.toNat 0 < 176 then some ⟨.take, [(ws.getD p.toNat 0 - 144) / 8], [(ws.getD p.toNat 0 - 144) % 8], 1⟩
    else match findC codes (ws.getD p.toNat 0) with
      | none => none
      | some c => if p + (1 + c.2.2.2 : Nat) > ws.length then none else some ⟨c.1, boxesOf c.2.1 c.2.2.1 (ws.getD p.toNat 0), (ws.drop (p.toNat + 1)).take c.2.2.2, 1 + c.2.2.2⟩) := by
  unfold rowAt
  rw [if_pos hp] <;> rfl
theorem ok_row_at (D : DefAt K mg "row_at" sD_row_at) (T : Txt w K mg) (c_op_of : Cal P w K mg base 1 "op_of" spOpOf []) (c_row_size : Cal P w K mg base 1 "row_size" spSize []) (c_boxes_of : Cal P w K mg base 1 "boxes_of" spBoxes []) :
    Cal P w K mg base 2 "row_at" (spRowAt K) [] := by
  refine cal_of D sc_row_at (fun _ _ _ _ _ _ us hl => match us, hl with | [_, _], _ => rfl) (fun vs H Q E h => ?_) (fun cdv A outer s H vs Q E hr h => ?_)
  · obtain ⟨c, n, p, rfl, _⟩ := h
    rfl
  · obtain ⟨a, ws, p, rfl, hS, hl, k0, k⟩ := h
    refine ⟨_, (pss_cut (ps_if (pt_not (pt_chain op_le op_lt pe_int (pv 1) (pe_callB call_len_seq (by rfl) T.free_len (by decide +kernel) (pa_cons (pv 0) pa_nil))))
   (pss_one (ps_ret pe_non))
   pss_nil)
  (pss_cons (ps_set (i := 2) sc_row_at.nd rfl (Or.inl rfl) (pe_ix ix_list (pv 0) (pv 1) (fun _ _ => rfl)))
  (pss_cons (ps_set (i := 3) sc_row_at.nd rfl (Or.inl rfl) (pe_c c_op_of hr (by decide) (by rfl) (pa_cons (pv 2) pa_nil)))
  (pss_cut (ps_if (PW.pt (pw_or (pt_cmpR op_isN (pv 3) pe_non (nomark _)) (pw_or1 (pt_cmpR op_gt (pe_op op_add (pv 1) (pe_c c_row_size hr (by decide) (by rfl) (pa_cons (pv 3) pa_nil))) (pe_callB call_len_seq (by rfl) T.free_len (by decide +kernel) (pa_cons (pv 0) pa_nil)) (nomark _)))))
   (pss_one (ps_ret pe_non))
   pss_nil)
  (pss_cons (ps_if (pt_cmpR op_eq (pv 3) pe_str (nomark _))
   (pss_one (ps_ret (pe_tup (pa_cons (pv 3) (pa_cons (pe_lst (pa_cons (pe_op op_fdiv (pe_op op_sub (pv 2) (pe_gI (by rfl) T.g_TAKE_FIRST)) (pe_gI (by rfl) T.g_TAKE_NUMBERS)) pa_nil)) (pa_cons (pe_lst (pa_cons (pe_op op_mod (pe_op op_sub (pv 2) (pe_gI (by rfl) T.g_TAKE_FIRST)) (pe_gI (by rfl) T.g_TAKE_NUMBERS)) pa_nil)) pa_nil))))))
   pss_nil)
  (pss_one (ps_ret (pe_tup (pa_cons (pv 3) (pa_cons (pe_c c_boxes_of hr (by decide) (by rfl) (pa_cons (pv 3) (pa_cons (pv 2) pa_nil))) (pa_cons (pe_slice sl_list (pv 0) (po_some (pe_op op_add (pv 1) pe_int)) (po_some (pe_op op_add (pv 1) (pe_c c_row_size hr (by decide) (by rfl) (pa_cons (pv 3) pa_nil))))) pa_nil))))))))))), ?_⟩
    refine ⟨fun σ' H' => σ' = start N_row_at [.ref a, .int p] ∧ H = H' ∧ (0 ≤ p ∧ p < (ws.length : Int)), ?_, ?_⟩
    · refine ⟨_, rfl, _, _, rfl, rfl, _, rfl, ?_⟩
      by_cases h1 : 0 ≤ p
      · rw [decide_eq_true h1]
        refine iteT ⟨_, rfl, a, _, rfl, .inl hS, _, _, rfl, rfl, _, rfl, ?_⟩
        rw [List.length_map]
        by_cases h2 : p < (ws.length : Int)
        · rw [decide_eq_true h2]
          exact iteF ⟨rfl, rfl, h1, h2⟩
        · rw [decide_eq_false h2]
          exact iteT (k0 (if_neg fun q => h2 q.2))
      · rw [decide_eq_false h1]
        exact iteF ⟨_, rfl, iteT (k0 (if_neg fun q => h1 q.1))⟩
    · rintro σ' H' ⟨rfl, rfl, hp⟩
      have er := rowAt_in hp
      refine ⟨_, rfl, _, rfl, a, _, _, _, rfl, rfl, hS, ints_atI hp.1 hp.2, ?_⟩
      generalize hw : ws.getD p.toNat 0 = n at er
      refine ⟨_, rfl, _, rfl, ?_⟩
      by_cases ht : 144 ≤ n ∧ n < 176
      · have eo : opOf n = some .take := if_pos ht
        rw [if_pos ht] at er
        rw [eo]
        dsimp only
        refine ⟨fun σ' H' => σ' = [some (.ref a), some (.int p), some (.int n), some (.str Kd.take.str)] ∧ H = H', ?_, ?_⟩
        · refine ⟨_, rfl, rfl, _, rfl, ?_⟩
          refine ite2 (fun q => absurd (of_decide_eq_true q) (by intro z; cases z)) (fun _ => ?_)
          refine ⟨_, rfl, _, rfl, .take, rfl, _, _, rfl, rfl, _, rfl, a, _, rfl, .inl hS, _, _, rfl, rfl, _, rfl, ?_⟩
          rw [List.length_map]
          have e : decide ((ws.length : Int) < p + ((rSize Kd.take : Nat) : Int)) = false := decide_eq_false (by have : rSize Kd.take = 1 := rfl; omega)
          rw [e]
          exact iteF ⟨rfl, rfl⟩
        · rintro σ' H' ⟨rfl, rfl⟩
          refine ⟨_, rfl, rfl, _, rfl, ?_⟩
          refine ite2 (fun _ => ?_) (fun q => absurd (decide_eq_true rfl) q)
          refine ⟨_, rfl, _, rfl, _, _, rfl, rfl, _, _, rfl, rfl, ⟨by decide, by decide⟩, (by show 1 ≤ sizeLine; decide), fun b hb => ?_⟩
          refine ⟨_, rfl, _, _, rfl, rfl, _, _, rfl, rfl, (by show (0 : Int) < 8; decide), (by show 1 ≤ sizeLine; decide), fun m hm => ?_⟩
          refine ⟨(by show 3 ≤ sizeLine; decide), fun t ht => ?_⟩
          have s1 := Same.new (o := .lst [V.int ((n - 144) / 8)]) hb
          have s2 := s1.add (o := .lst [V.int ((n - 144) % 8)]) hm
          have hbm : b ≠ m := ne_of_none upd_same hm
          have hbt : b ≠ t := ne_of_none (Same.new hm _ _ upd_same) ht
          have hmt : m ≠ t := ne_of_none upd_same ht
          refine k _ er _ t b m (s2.add ht) (s2.free ht) hb (s1.free hm) upd_same ?_ ?_
          · rw [upd_ne hbt, upd_ne hbm, upd_same]
            rfl
          · rw [upd_ne hmt, upd_same]
            rfl
      · have eo : opOf n = (findC codes n).map (·.1) := if_neg ht
        rw [if_neg ht] at er
        rw [eo]
        cases ef : findC codes n with
        | none =>
          rw [ef] at er
          dsimp only at er
          refine ⟨fun σ' H' => False, ?_, fun _ _ z => z.elim⟩
          refine ⟨_, rfl, rfl, _, rfl, ?_⟩
          exact iteT (k0 er)
        | some c =>
          rw [ef] at er
          dsimp only [Option.map] at er ⊢
          obtain ⟨cm, c1, c2⟩ := findC_mem ef
          obtain ⟨q1, q2, q3, q4⟩ := codes_ok c cm
          have es : rSize c.1 = 1 + c.2.2.2 := by
            unfold rSize
            rw [if_neg q3, q2]
          refine ⟨fun σ' H' => σ' = [some (.ref a), some (.int p), some (.int n), some (.str c.1.str)] ∧ H = H' ∧ ¬ (p + (1 + c.2.2.2 : Nat) > ws.length), ?_, ?_⟩
          · refine ⟨_, rfl, rfl, _, rfl, ?_⟩
            refine ite2 (fun q => absurd (of_decide_eq_true q) (by intro z; cases z)) (fun _ => ?_)
            refine ⟨_, rfl, _, rfl, c.1, rfl, _, _, rfl, rfl, _, rfl, a, _, rfl, .inl hS, _, _, rfl, rfl, _, rfl, ?_⟩
            rw [List.length_map, es]
            by_cases hlen : p + (1 + c.2.2.2 : Nat) > ws.length
            · rw [decide_eq_true hlen]
              rw [if_pos hlen] at er
              exact iteT (k0 er)
            · rw [decide_eq_false hlen]
              exact iteF ⟨rfl, rfl, hlen⟩
          · rintro σ' H' ⟨rfl, rfl, hlen⟩
            rw [if_neg hlen] at er
            refine ⟨_, rfl, rfl, _, rfl, ?_⟩
            refine ite2 (fun q => absurd (V.str.inj (of_decide_eq_true q)) (str_take _ q3)) (fun _ => ?_)
            refine ⟨_, rfl, _, rfl, _, rfl, c, n, rfl, cm, fun H1 b s1 hb hb1 => ?_⟩
            refine ⟨_, rfl, _, rfl, _, _, rfl, rfl, _, rfl, _, rfl, _, rfl, c.1, rfl, _, _, rfl, rfl, _, rfl, a, _, rfl, s1.seq hS, fun m hm => ?_⟩
            refine ⟨(by show 3 ≤ sizeLine; decide), fun t ht => ?_⟩
            have e1 : p + 1 = ((p.toNat + 1 : Nat) : Int) := by omega
            have e2 : p + ((rSize c.1 : Nat) : Int) = ((p.toNat + (1 + c.2.2.2) : Nat) : Int) := by omega
            have ec : cutV (il ws) (some (p + 1)) (some (p + ((rSize c.1 : Nat) : Int))) = il ((ws.drop (p.toNat + 1)).take c.2.2.2) := by
              rw [e1, e2, cut_il _ (by omega)]
              congr 2
              omega
            rw [ec] at ht ⊢
            have s2 := s1.add (o := .lst (il ((ws.drop (p.toNat + 1)).take c.2.2.2))) hm
            have hbm : b ≠ m := ne_of_none hb1 hm
            have hbt : b ≠ t := ne_of_none (Same.new hm _ _ hb1) ht
            have hmt : m ≠ t := ne_of_none upd_same ht
            refine k _ er _ t b m (s2.add ht) (s2.free ht) hb (s1.free hm) upd_same ?_ ?_
            · rw [upd_ne hbt, upd_ne hbm]
              exact hb1
            · rw [upd_ne hmt, upd_same]
end
end Rs
namespace Rs
open PySem PySem.Spec PyProof.Rows L2 C8
/-- where a machine's parts stand -/
structure Ad where
  x : Addr
  dx : Addr
  w : Addr
  c : Addr
  b : Addr
  k : Addr
  s : Addr
def mf (A : Ad) (pl : Int) (wy : Str) : List (Str × V) := [("words", .ref A.w), ("cells", .ref A.c), ("boxes", .ref A.b), ("calls", .ref A.k), ("says", .ref A.s), ("place", .int pl), ("why", .str wy)]
theorem mf_words (A : Ad) (pl : Int) (wy : Str) : (mf A pl wy).lookup ("words" : Str) = some (.ref A.w) := rfl
theorem mf_cells (A : Ad) (pl : Int) (wy : Str) : (mf A pl wy).lookup ("cells" : Str) = some (.ref A.c) := rfl
theorem mf_boxes (A : Ad) (pl : Int) (wy : Str) : (mf A pl wy).lookup ("boxes" : Str) = some (.ref A.b) := rfl
theorem mf_calls (A : Ad) (pl : Int) (wy : Str) : (mf A pl wy).lookup ("calls" : Str) = some (.ref A.k) := rfl
theorem mf_says (A : Ad) (pl : Int) (wy : Str) : (mf A pl wy).lookup ("says" : Str) = some (.ref A.s) := rfl
theorem mf_place (A : Ad) (pl : Int) (wy : Str) : (mf A pl wy).lookup ("place" : Str) = some (.int pl) := rfl
theorem mf_why (A : Ad) (pl : Int) (wy : Str) : (mf A pl wy).lookup ("why" : Str) = some (.str wy) := rfl
theorem put_place (A : Ad) (pl p2 : Int) (wy : Str) : putF "place" (.int p2) (mf A pl wy) = mf A p2 wy := rfl
theorem put_why (A : Ad) (pl : Int) (wy w2 : Str) : putF "why" (.str w2) (mf A pl wy) = mf A pl w2 := rfl
theorem mf_few (A : Ad) (pl : Int) (wy : Str) : (mf A pl wy).length < 1000 := by show 7 < 1000; decide
structure MAt (C : Addr) (H : Hp) (A : Ad) (ws : List Int) (m : M) : Prop where
  x : H A.x = some (.ins C A.dx (mf A m.place m.why))
  w : H A.w = some (.lst (il ws))
  c : H A.c = some (.lst (il m.cells))
  b : H A.b = some (.lst (il m.boxes))
  k : H A.k = some (.lst (il m.calls))
  s : H A.s = some (.lst (il m.says))
  nd : [A.w, A.c, A.b, A.k, A.s].Nodup
def Out (A : Ad) (H H' : Hp) : Prop := ∀ q, q ≠ A.x → q ≠ A.c → q ≠ A.b → q ≠ A.k → q ≠ A.s → H' q = H q
section
variable {C : Addr} {H : Hp} {A : Ad} {ws : List Int} {m : M}
theorem MAt.ne (h : MAt C H A ws m) : (A.w ≠ A.c ∧ A.w ≠ A.b ∧ A.w ≠ A.k ∧ A.w ≠ A.s) ∧ (A.c ≠ A.b ∧ A.c ≠ A.k ∧ A.c ≠ A.s) ∧ (A.b ≠ A.k ∧ A.b ≠ A.s) ∧ A.k ≠ A.s := by
  have := h.nd
  simp only [List.nodup_cons, List.mem_cons, List.not_mem_nil, or_false, not_or] at this
  obtain ⟨⟨a1, a2, a3, a4⟩, ⟨b1, b2, b3⟩, ⟨c1, c2⟩, d1, _⟩ := this
  exact ⟨⟨a1, a2, a3, a4⟩, ⟨b1, b2, b3⟩, ⟨c1, c2⟩, d1⟩
theorem MAt.nx (h : MAt C H A ws m) : A.x ≠ A.w ∧ A.x ≠ A.c ∧ A.x ≠ A.b ∧ A.x ≠ A.k ∧ A.x ≠ A.s :=
  ⟨ne_of h.x h.w (by intro q; cases q), ne_of h.x h.c (by intro q; cases q), ne_of h.x h.b (by intro q; cases q), ne_of h.x h.k (by intro q; cases q), ne_of h.x h.s (by intro q; cases q)⟩
theorem MAt.setX (h : MAt C H A ws m) (p : Int) (y : Str) : MAt C (upd H A.x (.ins C A.dx (mf A p y))) A ws { m with place := p, why := y } := by
  obtain ⟨n1, n2, n3, n4, n5⟩ := h.nx
  exact ⟨upd_same, (upd_ne n1.symm).trans h.w, (upd_ne n2.symm).trans h.c, (upd_ne n3.symm).trans h.b, (upd_ne n4.symm).trans h.k, (upd_ne n5.symm).trans h.s, h.nd⟩
theorem MAt.setC (h : MAt C H A ws m) (l : List Int) : MAt C (upd H A.c (.lst (il l))) A ws { m with cells := l } := by
  obtain ⟨n1, n2, n3, n4, n5⟩ := h.nx
  obtain ⟨⟨a1, a2, a3, a4⟩, ⟨b1, b2, b3⟩, ⟨c1, c2⟩, d1⟩ := h.ne
  exact ⟨(upd_ne n2).trans h.x, (upd_ne a1).trans h.w, upd_same, (upd_ne b1.symm).trans h.b, (upd_ne b2.symm).trans h.k, (upd_ne b3.symm).trans h.s, h.nd⟩
theorem MAt.setB (h : MAt C H A ws m) (l : List Int) : MAt C (upd H A.b (.lst (il l))) A ws { m with boxes := l } := by
  obtain ⟨n1, n2, n3, n4, n5⟩ := h.nx
  obtain ⟨⟨a1, a2, a3, a4⟩, ⟨b1, b2, b3⟩, ⟨c1, c2⟩, d1⟩ := h.ne
  exact ⟨(upd_ne n3).trans h.x, (upd_ne a2).trans h.w, (upd_ne b1).trans h.c, upd_same, (upd_ne c1.symm).trans h.k, (upd_ne c2.symm).trans h.s, h.nd⟩
theorem MAt.setK (h : MAt C H A ws m) (l : List Int) : MAt C (upd H A.k (.lst (il l))) A ws { m with calls := l } := by
  obtain ⟨n1, n2, n3, n4, n5⟩ := h.nx
  obtain ⟨⟨a1, a2, a3, a4⟩, ⟨b1, b2, b3⟩, ⟨c1, c2⟩, d1⟩ := h.ne
  exact ⟨(upd_ne n4).trans h.x, (upd_ne a3).trans h.w, (upd_ne b2).trans h.c, (upd_ne c1).trans h.b, upd_same, (upd_ne d1.symm).trans h.s, h.nd⟩
theorem MAt.setS (h : MAt C H A ws m) (l : List Int) : MAt C (upd H A.s (.lst (il l))) A ws { m with says := l } := by
  obtain ⟨n1, n2, n3, n4, n5⟩ := h.nx
  obtain ⟨⟨a1, a2, a3, a4⟩, ⟨b1, b2, b3⟩, ⟨c1, c2⟩, d1⟩ := h.ne
  exact ⟨(upd_ne n5).trans h.x, (upd_ne a4).trans h.w, (upd_ne b3).trans h.c, (upd_ne c2).trans h.b, (upd_ne d1).trans h.k, upd_same, h.nd⟩
end
theorem Out.refl (A : Ad) (H : Hp) : Out A H H := fun _ _ _ _ _ _ => rfl
theorem Out.x {A : Ad} {H H' : Hp} (h : Out A H H') (o : HO) : Out A H (upd H' A.x o) := fun q n1 n2 n3 n4 n5 => (upd_ne n1).trans (h q n1 n2 n3 n4 n5)
theorem Out.c {A : Ad} {H H' : Hp} (h : Out A H H') (o : HO) : Out A H (upd H' A.c o) := fun q n1 n2 n3 n4 n5 => (upd_ne n2).trans (h q n1 n2 n3 n4 n5)
theorem Out.b {A : Ad} {H H' : Hp} (h : Out A H H') (o : HO) : Out A H (upd H' A.b o) := fun q n1 n2 n3 n4 n5 => (upd_ne n3).trans (h q n1 n2 n3 n4 n5)
theorem Out.k {A : Ad} {H H' : Hp} (h : Out A H H') (o : HO) : Out A H (upd H' A.k o) := fun q n1 n2 n3 n4 n5 => (upd_ne n4).trans (h q n1 n2 n3 n4 n5)
theorem Out.s {A : Ad} {H H' : Hp} (h : Out A H H') (o : HO) : Out A H (upd H' A.s o) := fun q n1 n2 n3 n4 n5 => (upd_ne n5).trans (h q n1 n2 n3 n4 n5)
theorem Out.trans {A : Ad} {H H1 H2 : Hp} (h : Out A H H1) (k : Out A H1 H2) : Out A H H2 := fun q n1 n2 n3 n4 n5 => (k q n1 n2 n3 n4 n5).trans (h q n1 n2 n3 n4 n5)
/-- the class -/
structure TxtM (K : PySem.W.Frag) (mg : Str → Option Value) (C : Addr) : Prop where
  cl : Cls K C
  words : NoAttr K C "words"
  cells : NoAttr K C "cells"
  boxes : NoAttr K C "boxes"
  calls : NoAttr K C "calls"
  says : NoAttr K C "says"
  place : NoAttr K C "place"
  why : NoAttr K C "why"
def spDo (C : Addr) (k : Kd) : Sp := fun vs H Q _ => ∃ (A : Ad) (ws : List Int) (m : M) (bx nm : List Int) (b n : Addr), vs = [.ref A.x, .ref b, .ref n] ∧ MAt C H A ws m ∧ Good m ∧ H b = some (.lst (il bx)) ∧ H n = some (.lst (il nm)) ∧
  (bx.length = nBox k ∧ nm.length = nNum k ∧ (∀ x ∈ bx, 0 ≤ x ∧ x < 4) ∧ Bytes nm) ∧ m.says.length ≤ 1001 ∧ n ≠ A.k ∧ ∀ H', MAt C H' A ws (doK k bx nm m) → Out A H H' → Q .non H'
theorem one_of {p : Int → Prop} {l : List Int} (h : l.length = 1) (hp : ∀ x ∈ l, p x) : ∃ a, l = [a] ∧ p a := by
  match l, h with
  | [a], _ => exact ⟨a, rfl, hp a (by simp)⟩
theorem two_of {p : Int → Prop} {l : List Int} (h : l.length = 2) (hp : ∀ x ∈ l, p x) : ∃ a b, l = [a, b] ∧ p a ∧ p b := by
  match l, h with
  | [a, b], _ => exact ⟨a, b, rfl, hp a (by simp), hp b (by simp)⟩
theorem ixN_in {n : Nat} {i : Int} (h0 : 0 ≤ i) (h1 : i < (n : Int)) : ixN n i = some i.toNat := by
  unfold ixN
  rw [if_pos h0, if_pos h1]
theorem il_set (l : List Int) (j : Nat) (v : Int) : (il l).set j (V.int v) = il (l.set j v) := (List.map_set (f := V.int)).symm
theorem il_app (l : List Int) (v : Int) : il l ++ [V.int v] = il (l ++ [v]) := by simp [il]
section
variable {P : Program} {w : World} {K : PySem.W.Frag} {mg : Str → Option Value} {base : Heap} {C : Addr}
end
end Rs
namespace Rs
open PySem PySem.Spec PyProof.Rows L2 C8
def doName : Kd → Str
  | .stop => "do_stop" | .back => "do_back" | .say => "do_say" | .takeL => "do_take" | .move => "do_move" | .add => "do_add" | .less => "do_less" | .load => "do_load" | .store => "do_store"
  | .jump => "do_jump" | .call => "do_call" | .skip => "do_skip" | .zero => "do_zero" | .same => "do_same" | .copy => "do_copy" | .take => "do_take"
section
variable {X : Cx}
theorem pe_callAt {k j i : Nat} {f : Addr} {sp : Sp} {x : Str} {p pos : Pos} {e : Expr} {es : List Expr} {t : TA} (c : CalAt X.prog X.w X.K X.mg X.base k f sp) (hr : Room j X.A) (hk : k ≤ j) (hN : X.N[i]? = some x) (hv : Vis X.env.scope x) (ha : PA X (e :: es) t)
    (hdb : (x == ("__debug__" : Str)) = false := by decide) (hcd : (x == ("__classdict__" : Str)) = false := by decide)
    (he : starEach (e :: es) X.env = (false, eval e X.env) :: starEach es X.env := by rfl) (hpl : (backTo pos (starEach es X.env)).any (·.1) = false := by rfl) : PE X (.Call (.Name x p) (e :: es) [] pos) (tCallL i f sp [] L2.E0 t) := by
  obtain ⟨fd, ps, F, kp, b⟩ := c.ex
  exact pe_callL F (hr.mono hk) hN hv kp b .nil L2.pass0 ha hdb hcd he hpl
end
section
variable {P : Program} {w : World} {K : PySem.W.Frag} {mg : Str → Option Value} {base : Heap} {C : Addr}
theorem calAt_of {k : Nat} {x : Str} {sp : Sp} {a : Addr} (c : Cal P w K mg base k x sp []) (e : mg x = some (.ref a)) : CalAt P w K mg base k a sp := by
  obtain ⟨f, fd, ps, ds, F, hm, kp, b, d⟩ := c.ex
  rw [hm] at e
  cases e
  cases d
  exact ⟨fd, ps, F, kp, b⟩
theorem CalAt.up {k j : Nat} {a : Addr} {sp : Sp} (c : CalAt P w K mg base k a sp) (h : k ≤ j) : k ≤ j := h
def spDoRow (C : Addr) : Sp := fun vs H Q _ => ∃ (A : Ad) (ws : List Int) (m : M) (r : Row) (t b n : Addr), vs = [.ref A.x, .ref t] ∧ H t = some (.tup [.str r.k.str, .ref b, .ref n]) ∧ MAt C H A ws m ∧ Good m ∧ H b = some (.lst (il r.bx)) ∧ H n = some (.lst (il r.nm)) ∧ Ok r ∧
  m.says.length ≤ 1001 ∧ n ≠ A.k ∧ ∀ H', MAt C H' A ws (doK r.k r.bx r.nm { m with place := m.place + r.size }) → Out A H H' → Q .non H'
def spInit (K : PySem.W.Frag) (C : Addr) : Sp := fun vs H Q _ => ∃ (x dx a : Addr) (ws : List Int) (begin : Int), vs = [.ref x, .ref a, .int begin] ∧ H x = some (.ins C dx []) ∧ SqL K H a (il ws) ∧ ws.length ≤ 256 ∧ x ≠ a ∧
  ∀ (H' : Hp) (A : Ad), A.x = x → A.dx = dx → MAt C H' A ws (init ws begin) → H A.w = none → H A.c = none → H A.b = none → H A.k = none → H A.s = none → (∀ q o, H q = some o → q ≠ x → H' q = some o) → Q .non H'
def Pr (x : Addr) (H H1 : Hp) : Prop := ∀ q o, H q = some o → q ≠ x → H1 q = some o
theorem Pr.fresh {x p : Addr} {H H1 : Hp} {o : HO} (pr : Pr x H H1) (hx : H1 x = some o) (hp : H1 p = none) : H p = none := by
  cases e : H p with
  | none => rfl
  | some u =>
    by_cases q : p = x
    · rw [q, hx] at hp
      cases hp
    · rw [pr p u e q] at hp
      cases hp
theorem Pr.seq {x a : Addr} {H H1 : Hp} {xs : List V} (pr : Pr x H H1) (h : SqL K H a xs) (n : x ≠ a) : SqL K H1 a xs := by
  rcases h with (h | ⟨o, h⟩) | h
  · exact .inl (.inl (pr _ _ h n.symm))
  · exact .inl (.inr ⟨o, pr _ _ h n.symm⟩)
  · exact .inr h
theorem Pr.add {x p : Addr} {H H1 : Hp} {o : HO} (pr : Pr x H H1) (h : H1 p = none) : Pr x H (upd H1 p o) := fun q u e n => by
  rw [upd_ne (ne_of_none (pr q u e n) h)]
  exact pr q u e n
theorem Pr.at {x : Addr} {H H1 : Hp} {o : HO} (pr : Pr x H H1) : Pr x H (upd H1 x o) := fun q u e n => by
  rw [upd_ne n]
  exact pr q u e n
theorem MAt.same {H H' : Hp} {A : Ad} {ws : List Int} {m : M} (h : MAt C H A ws m) (s : Same H H') : MAt C H' A ws m := ⟨s _ _ h.x, s _ _ h.w, s _ _ h.c, s _ _ h.b, s _ _ h.k, s _ _ h.s, h.nd⟩
/-- apart from all parts -/
def Apart (A : Ad) (q : Addr) : Prop := A.x ≠ q ∧ A.w ≠ q ∧ A.c ≠ q ∧ A.b ≠ q ∧ A.k ≠ q ∧ A.s ≠ q
theorem MAt.other {H : Hp} {A : Ad} {ws : List Int} {m : M} {q : Addr} {o : HO} (h : MAt C H A ws m) (n : Apart A q) : MAt C (upd H q o) A ws m :=
  ⟨(upd_ne n.1).trans h.x, (upd_ne n.2.1).trans h.w, (upd_ne n.2.2.1).trans h.c, (upd_ne n.2.2.2.1).trans h.b, (upd_ne n.2.2.2.2.1).trans h.k, (upd_ne n.2.2.2.2.2).trans h.s, h.nd⟩
theorem MAt.apart {H : Hp} {A : Ad} {ws : List Int} {m : M} {q : Addr} (h : MAt C H A ws m) (n : H q = none) : Apart A q :=
  ⟨ne_of_none h.x n, ne_of_none h.w n, ne_of_none h.c n, ne_of_none h.b n, ne_of_none h.k n, ne_of_none h.s n⟩
theorem Out.at {A : Ad} {H H' : Hp} {q : Addr} (h : Out A H H') (n : Apart A q) : H' q = H q := h q n.1.symm n.2.2.1.symm n.2.2.2.1.symm n.2.2.2.2.1.symm n.2.2.2.2.2.symm
def spRun (K : PySem.W.Frag) : Sp := fun vs H Q _ => ∃ (a : Addr) (ws : List Int) (begin : Int) (most : Nat), vs = [.ref a, .int begin, .int most] ∧ H a = some (.lst (il ws)) ∧ ws.length ≤ 256 ∧ Bytes ws ∧ 0 ≤ begin ∧ begin ≤ 255 ∧ most ≤ 1000 ∧
  ∀ (H' : Hp) (t s p : Addr), Same H H' → H t = none → H s = none → H p = none → s ≠ p → H' t = some (.tup [.ref s, .str (runW ws most (init ws begin)).why, .ref p]) → H' s = some (.lst (il (runW ws most (init ws begin)).says)) →
    H' p = some (.lst (il (runW ws most (init ws begin)).past)) → Q (.ref t) H'
end
end Rs
/-! rows as they lie: what never changes (I) and the rows themselves -/
namespace Rs
open PySem PySem.Spec PyProof.Rows L2 C8
section
variable {α β : Type}
/-- two lists that answer one another -/
def Al (p : α → β → Prop) (xs : List α) (ys : List β) : Prop := xs.length = ys.length ∧ ∀ (i : Nat) (x : α) (y : β), xs[i]? = some x → ys[i]? = some y → p x y
theorem Al.nil {p : α → β → Prop} : Al p [] [] := ⟨rfl, fun i x y h => by cases h⟩
theorem Al.mono {p q : α → β → Prop} {xs : List α} {ys : List β} (h : Al p xs ys) (k : ∀ x y, p x y → q x y) : Al q xs ys := ⟨h.1, fun i x y a b => k _ _ (h.2 i x y a b)⟩
theorem Al.snoc {p : α → β → Prop} {xs : List α} {ys : List β} {x : α} {y : β} (h : Al p xs ys) (k : p x y) : Al p (xs ++ [x]) (ys ++ [y]) := by
  refine ⟨by simp [h.1], fun i u f h1 h2 => ?_⟩
  by_cases hi : i < xs.length
  · rw [List.getElem?_append_left hi] at h1
    rw [List.getElem?_append_left (by rw [← h.1]; exact hi)] at h2
    exact h.2 i u f h1 h2
  · rw [List.getElem?_append_right (Nat.le_of_not_lt hi)] at h1
    rw [List.getElem?_append_right (by rw [← h.1]; exact Nat.le_of_not_lt hi), ← h.1] at h2
    cases q : i - xs.length with
    | zero =>
      rw [q] at h1 h2
      cases h1
      cases h2
      exact k
    | succ n =>
      rw [q] at h1
      cases h1
theorem Al.get {p : α → β → Prop} {xs : List α} {ys : List β} (h : Al p xs ys) {i : Nat} {x : α} (e : xs[i]? = some x) : ∃ y, ys[i]? = some y ∧ p x y := by
  have hi : i < ys.length := by
    rw [← h.1]
    exact (List.getElem?_eq_some_iff.mp e).1
  exact ⟨ys[i], List.getElem?_eq_getElem hi, h.2 i x _ e (List.getElem?_eq_getElem hi)⟩
theorem Al.get' {p : α → β → Prop} {xs : List α} {ys : List β} (h : Al p xs ys) {i : Nat} {y : β} (e : ys[i]? = some y) : ∃ x, xs[i]? = some x ∧ p x y := by
  have hi : i < xs.length := by
    rw [h.1]
    exact (List.getElem?_eq_some_iff.mp e).1
  exact ⟨xs[i], List.getElem?_eq_getElem hi, h.2 i _ y (List.getElem?_eq_getElem hi) e⟩
theorem Al.mem {p : α → β → Prop} {xs : List α} {ys : List β} (h : Al p xs ys) {x : α} (e : x ∈ xs) : ∃ y ∈ ys, p x y := by
  obtain ⟨i, hi, rfl⟩ := List.mem_iff_getElem.mp e
  obtain ⟨y, e1, e2⟩ := h.get (List.getElem?_eq_getElem hi)
  exact ⟨y, List.mem_of_getElem? e1, e2⟩
theorem drop_cons {l : List α} {i : Nat} {x : α} (e : l[i]? = some x) : l.drop i = x :: l.drop (i + 1) := by
  obtain ⟨h1, h2⟩ := List.getElem?_eq_some_iff.mp e
  rw [List.drop_eq_getElem_cons h1, h2]
theorem map_at {f : α → β} {l : List α} {i : Nat} {y : β} (e : (l.map f)[i]? = some y) : ∃ x, l[i]? = some x ∧ y = f x := by
  rw [List.getElem?_map] at e
  cases h : l[i]? with
  | none =>
    rw [h] at e
    cases e
  | some x =>
    rw [h] at e
    exact ⟨x, rfl, (Option.some.inj e).symm⟩
theorem take_snoc {l : List α} {i : Nat} {x : α} (e : l[i]? = some x) : l.take (i + 1) = l.take i ++ [x] := by
  rw [List.take_succ, e] <;> rfl
end
theorem yesS {σ : L2.St} {H : Hp} {Q : Bool → Hp → Prop} (h : Q true H) : tYes σ H Q := h
/-! ### dicts with text keys -/
section
variable {α : Type}
/-- a dict's pairs as they lie -/
def kv (f : α → V) (m : List (Str × α)) : List (Key × V) := m.map fun e => (Sum.inr e.1, f e.2)
theorem kv_get (f : α → V) (a : Str) : ∀ m : List (Str × α), valV (kv f m) (Sum.inr a) = (getL m a).map f
  | [] => rfl
  | e :: r => by
    have ih := kv_get f a r
    by_cases q : e.1 = a
    · rw [show kv f (e :: r) = (Sum.inr e.1, f e.2) :: kv f r from rfl, valV_pos (congrArg Sum.inr q), show getL (e :: r) a = some e.2 by simp [getL, List.find?_cons, q]] <;> rfl
    · rw [show kv f (e :: r) = (Sum.inr e.1, f e.2) :: kv f r from rfl, valV_neg (fun z => q (Sum.inr.inj z)), ih, show getL (e :: r) a = getL r a by simp [getL, List.find?_cons, q]]
theorem kv_put (f : α → V) (a : Str) (v : α) (m : List (Str × α)) : putK (kv f m) (Sum.inr a) (f v) = kv f (putL m a v) := by
  have e1 : ((kv f m).any fun e => decide (e.1 = Sum.inr a)) = (m.any fun e => decide (e.1 = a)) := by
    unfold kv
    rw [List.any_map]
    congr 1
    funext e
    exact decide_eq_decide.mpr ⟨fun z => Sum.inr.inj z, fun z => congrArg Sum.inr z⟩
  unfold putK putL
  rw [e1]
  by_cases q : (m.any fun e => decide (e.1 = a)) = true
  · rw [if_pos q, if_pos q]
    unfold kv
    rw [List.map_map, List.map_map]
    refine List.map_congr_left fun e _ => ?_
    show (if (Sum.inr e.1 : Key) = Sum.inr a then _ else _) = _
    by_cases z : e.1 = a
    · rw [if_pos (congrArg Sum.inr z)]
      show _ = (Sum.inr (if e.1 = a then (e.1, v) else e).1, f (if e.1 = a then (e.1, v) else e).2)
      rw [if_pos z]
    · rw [if_neg (fun y => z (Sum.inr.inj y))]
      show _ = (Sum.inr (if e.1 = a then (e.1, v) else e).1, f (if e.1 = a then (e.1, v) else e).2)
      rw [if_neg z]
  · rw [if_neg q, if_neg q]
    unfold kv
    rw [List.map_append] <;> rfl
theorem kv_len (f : α → V) (m : List (Str × α)) : (kv f m).length = m.length := by
  unfold kv
  rw [List.length_map]
theorem putL_len (a : Str) (v : α) (m : List (Str × α)) : (putL m a v).length ≤ m.length + 1 := by
  unfold putL
  split
  · rw [List.length_map]
    omega
  · rw [List.length_append]
    exact Nat.le_refl _
theorem getL_mem {a : Str} {v : α} {m : List (Str × α)} (h : getL m a = some v) : (a, v) ∈ m := by
  unfold getL at h
  cases e : m.find? fun e => decide (e.1 = a) with
  | none =>
    rw [e] at h
    cases h
  | some p =>
    rw [e] at h
    have h1 := List.mem_of_find?_eq_some e
    have h2 : decide (p.1 = a) = true := by simpa using List.find?_some e
    have h3 := of_decide_eq_true h2
    obtain ⟨x, y⟩ := p
    cases h
    cases h3
    exact h1
end
/-! ### rows -/
def SgOk (L : List Pp) : Prop := (∀ e ∈ L, e.1 = 1 ∨ e.1 = -1) ∧ L.length ≤ 24
def SumsAt (H : Hp) (ts : List Addr) (Ls : List (List Pp)) : Prop := ts.length = Ls.length ∧ ∀ (i : Nat) (t : Addr) (L : List Pp), ts[i]? = some t → Ls[i]? = some L → SmAt H t L
theorem SumsAt.same {H H' : Hp} {ts : List Addr} {Ls : List (List Pp)} (h : SumsAt H ts Ls) (k : Same H H') : SumsAt H' ts Ls := ⟨h.1, fun i t L a b => (h.2 i t L a b).mono k⟩
/-- what stands behind a row's op -/
def WfR (R : Rm) : Prop := (R.op = "" ∧ R.sums = []) ∨ (R.op = ("is" : Str) ∧ R.sums.length = 1) ∨ R.op = ("word" : Str) ∨ ∃ nb nn : Nat, shapeM R.op = some (nb, nn) ∧ R.boxes.length = nb ∧ R.sums.length = nn
/-- what a row has that never changes -/
structure RowIm (I : Hp) (b s t : Addr) (R : Rm) : Prop where
  b : I b = some (.lst (R.boxes.map V.int))
  s : ∃ ts : List Addr, I s = some (.lst (ts.map V.ref)) ∧ SumsAt I ts R.sums
  t : I t = some (.tup (R.words.map V.int))
  sg : ∀ L ∈ R.sums, SgOk L
  wf : WfR R
  few : R.sums.length ≤ 100000
  lab : R.label.length ≤ 200000 ∧ R.gives.length ≤ 200000
  gv : R.gives ≠ "" ↔ R.op = ("is" : Str)
theorem RowIm.same {I I' : Hp} {b s t : Addr} {R : Rm} (h : RowIm I b s t R) (k : Same I I') : RowIm I' b s t R := by
  obtain ⟨ts, g1, g2⟩ := h.s
  exact ⟨k _ _ h.b, ⟨ts, k _ _ g1, g2.same k⟩, k _ _ h.t, h.sg, h.wf, h.few, h.lab, h.gv⟩
def rfm (R : Rm) (b s t : Addr) : List (Str × V) := [("row", .int R.row), ("label", .str R.label), ("op", .str R.op), ("boxes", .ref b), ("sums", .ref s), ("gives", .str R.gives), ("amount", .int R.amount), ("place", .int R.place), ("long", .bl R.long), ("words", .ref t)]
/-- a row at x -/
def RowAt (C : Addr) (I H : Hp) (x : Addr) (R : Rm) : Prop := ∃ dx b s t, H x = some (.ins C dx (rfm R b s t)) ∧ I x = none ∧ RowIm I b s t R
/-- a row at x, what it has too -/
def RowNow (C : Addr) (H : Hp) (x : Addr) (R : Rm) : Prop := ∃ dx b s t, H x = some (.ins C dx (rfm R b s t)) ∧ RowIm H b s t R
/-- all rows -/
structure RowsAt (C : Addr) (I H : Hp) (xs : List Addr) (Rs : List Rm) : Prop where
  sub : Same I H
  nd : xs.Nodup
  at_ : Al (RowAt C I H) xs Rs
/-- all but the rows is as it was -/
def KpS (xs : List Addr) (H H' : Hp) : Prop := ∀ q o, H q = some o → q ∉ xs → H' q = some o
theorem KpS.refl (xs : List Addr) (H : Hp) : KpS xs H H := fun _ _ e _ => e
theorem KpS.trans {xs : List Addr} {H H1 H2 : Hp} (a : KpS xs H H1) (b : KpS xs H1 H2) : KpS xs H H2 := fun q o e n => b q o (a q o e n) n
theorem Same.kps {H H' : Hp} (s : Same H H') (xs : List Addr) : KpS xs H H' := fun q o e _ => s q o e
theorem KpS.put {xs : List Addr} {H H1 : Hp} {p : Addr} {o : HO} (a : KpS xs H H1) (h : H p = none) : KpS xs H (upd H1 p o) := fun q u e n => by
  rw [upd_ne (ne_of_none e h)]
  exact a q u e n
theorem KpS.at {xs : List Addr} {H H1 : Hp} {x : Addr} {o : HO} (a : KpS xs H H1) (h : x ∈ xs) : KpS xs H (upd H1 x o) := fun q u e n => by
  rw [upd_ne (fun z : q = x => n (by rw [z]; exact h))]
  exact a q u e n
section
variable {C : Addr} {I H H' : Hp} {xs : List Addr} {Rs : List Rm}
theorem RowsAt.obj (h : RowsAt C I H xs Rs) {x : Addr} (m : x ∈ xs) : ∃ dx fs, H x = some (.ins C dx fs) := by
  obtain ⟨R, _, dx, b, s, t, e, _⟩ := h.at_.mem m
  exact ⟨dx, _, e⟩
theorem RowsAt.notIn (h : RowsAt C I H xs Rs) {q : Addr} {o : HO} (e : H q = some o) (n : ∀ dx fs, o ≠ .ins C dx fs) : q ∉ xs := fun m => by
  obtain ⟨dx, fs, e2⟩ := h.obj m
  rw [e] at e2
  exact n _ _ (Option.some.inj e2)
theorem RowsAt.free (h : RowsAt C I H xs Rs) {q : Addr} (e : H q = none) : q ∉ xs := fun m => by
  obtain ⟨dx, fs, e2⟩ := h.obj m
  rw [e] at e2
  cases e2
theorem RowsAt.same (h : RowsAt C I H xs Rs) (s : Same H H') : RowsAt C I H' xs Rs := ⟨h.sub.trans s, h.nd, h.at_.mono fun x R ⟨dx, b, s1, t, e, i, m⟩ => ⟨dx, b, s1, t, s _ _ e, i, m⟩⟩
theorem RowsAt.put (h : RowsAt C I H xs Rs) {l : Addr} {o : HO} (i : I l = none) (n : l ∉ xs) : RowsAt C I (upd H l o) xs Rs := by
  refine ⟨fun q u e => ?_, h.nd, h.at_.1, fun j x R e1 e2 => ?_⟩
  · rw [upd_ne (ne_of_none e i)]
    exact h.sub q u e
  · obtain ⟨dx, b, s, t, e, i2, m⟩ := h.at_.2 j x R e1 e2
    exact ⟨dx, b, s, t, (upd_ne (fun z : x = l => n (by rw [← z]; exact List.mem_of_getElem? e1))).trans e, i2, m⟩
theorem nodup_at {xs : List Addr} (nd : xs.Nodup) {i j : Nat} {x : Addr} (e1 : xs[i]? = some x) (e2 : xs[j]? = some x) : i = j := by
  obtain ⟨h1, h2⟩ := List.getElem?_eq_some_iff.mp e1
  obtain ⟨h3, h4⟩ := List.getElem?_eq_some_iff.mp e2
  have e3 : xs[i] = xs[j] := h2.trans h4.symm
  rcases Nat.lt_trichotomy i j with z | z | z
  · exact absurd e3 (List.pairwise_iff_getElem.mp nd i j h1 h3 z)
  · exact z
  · exact absurd e3.symm (List.pairwise_iff_getElem.mp nd j i h3 h1 z)
/-- one row told otherwise -/
theorem RowsAt.set (h : RowsAt C I H xs Rs) {i : Nat} {x dx b s t : Addr} {R' : Rm} (e : xs[i]? = some x) (m : RowIm I b s t R') : RowsAt C I (upd H x (.ins C dx (rfm R' b s t))) xs (Rs.set i R') := by
  have ix : I x = none := by
    obtain ⟨R, _, _, _, _, _, _, z, _⟩ := h.at_.get e
    exact z
  refine ⟨fun q u e2 => ?_, h.nd, by rw [List.length_set]; exact h.at_.1, fun j y R e1 e2 => ?_⟩
  · rw [upd_ne (ne_of_none e2 ix)]
    exact h.sub q u e2
  · by_cases q : i = j
    · subst q
      rw [e] at e1
      cases e1
      rw [List.getElem?_set_self (by have := (List.getElem?_eq_some_iff.mp e).1; rw [← h.at_.1]; exact this)] at e2
      cases e2
      exact ⟨dx, b, s, t, upd_same, ix, m⟩
    · rw [List.getElem?_set_ne q] at e2
      obtain ⟨dx2, b2, s2, t2, g1, g2, g3⟩ := h.at_.2 j y R e1 e2
      exact ⟨dx2, b2, s2, t2, (upd_ne (fun z : y = x => q (nodup_at h.nd e (by rw [← z]; exact e1)))).trans g1, g2, g3⟩
theorem RowsAt.get (h : RowsAt C I H xs Rs) {i : Nat} {x : Addr} (e : xs[i]? = some x) : ∃ R dx b s t, Rs[i]? = some R ∧ H x = some (.ins C dx (rfm R b s t)) ∧ RowIm I b s t R := by
  obtain ⟨R, e2, dx, b, s, t, g1, g2, g3⟩ := h.at_.get e
  exact ⟨R, dx, b, s, t, e2, g1, g3⟩
theorem RowsAt.now (h : RowsAt C I H xs Rs) {i : Nat} {x : Addr} {R : Rm} (e : xs[i]? = some x) (e2 : Rs[i]? = some R) : RowNow C H x R := by
  obtain ⟨dx, b, s, t, g1, g2, g3⟩ := h.at_.2 i x R e e2
  exact ⟨dx, b, s, t, g1, g3.same h.sub⟩
theorem RowsAt.labs (h : RowsAt C I H xs Rs) : ∀ R ∈ Rs, R.label.length ≤ 200000 ∧ R.gives.length ≤ 200000 := fun R m => by
  obtain ⟨i, hi, rfl⟩ := List.mem_iff_getElem.mp m
  obtain ⟨x, e, dx, b, s, t, _, _, g⟩ := h.at_.get' (List.getElem?_eq_getElem hi)
  exact g.lab
theorem RowsAt.gvs (h : RowsAt C I H xs Rs) : ∀ R ∈ Rs, R.gives ≠ "" ↔ R.op = ("is" : Str) := fun R m => by
  obtain ⟨i, hi, rfl⟩ := List.mem_iff_getElem.mp m
  obtain ⟨x, e, dx, b, s, t, _, _, g⟩ := h.at_.get' (List.getElem?_eq_getElem hi)
  exact g.gv
theorem RowsAt.tabs {K : PySem.W.Frag} (h : RowsAt C I H xs Rs) (t : Tabs K H) (k : KpS xs H H') : Tabs K H' := fun y hy => k _ _ (t y hy) (h.notIn (t y hy) (fun _ _ z => by cases z))
end
structure TxtR (K : PySem.W.Frag) (C : Addr) : Prop where
  cl : Cls K C
  row : NoAttr K C "row"
  label : NoAttr K C "label"
  op : NoAttr K C "op"
  boxes : NoAttr K C "boxes"
  sums : NoAttr K C "sums"
  gives : NoAttr K C "gives"
  amount : NoAttr K C "amount"
  place : NoAttr K C "place"
  long : NoAttr K C "long"
  words : NoAttr K C "words"
end Rs
namespace Rs
open PySem PySem.Spec PyProof.Rows L2 C8
theorem pe_c0 {X : Cx} {k j : Nat} {x : Str} {sp : Sp} {dvs : List V} {p pos : Pos} (c : Cal X.prog X.w X.K X.mg X.base k x sp dvs) (hr : Room j X.A) (hk : k ≤ j) (hg : Gl X x) (hdb : (x == ("__debug__" : Str)) = false := by decide) :
    PE X (.Call (.Name x p) [] [] pos) (tCall sp dvs L2.E0 tNil) := by
  obtain ⟨f, fd, ps, ds, F, hm, kp, b, d⟩ := c.ex
  exact pe_call0 F (hr.mono hk) hg hm kp b d L2.pass0 hdb
section
variable {P : Program} {w : World} {K : PySem.W.Frag} {mg : Str → Option Value} {base : Heap}
def stt (a : Addr) (i m r : Int) : List V := [.ref a, .int i, .int m, .int r]
def spStart (K : PySem.W.Frag) : Sp := fun vs H Q _ => ∃ (a : Addr) (ns : List Int), vs = [.ref a] ∧ SqL K H a (il ns) ∧ ∀ p m, H p = none → Q (.ref p) (upd H p (.lst (stt a 0 m 0)))
theorem ok_start (D : DefAt K mg "_law_start" sD__law_start) : Cal P w K mg base 1 "_law_start" (spStart K) [] := by
  refine cal_of D sc__law_start (fun _ _ _ _ _ _ us hl => match us, hl with | [_], _ => rfl) (fun vs H Q E h => ?_) (fun cdv A outer s H vs Q E hr h => ?_)
  · obtain ⟨a, ns, rfl, _⟩ := h
    rfl
  · obtain ⟨a, ns, rfl, hS, k⟩ := h
    refine ⟨_, (pss_cons (ps_set (i := 1) sc__law_start.nd rfl (Or.inl rfl) pe_int)
  (pss_cons (ps_for PassesOwn.never rfl (pi_list (pv 0)) (pg_name (i := 2) sc__law_start.nd rfl (Or.inl rfl))
   (pss_one (ps_set (i := 1) sc__law_start.nd rfl (Or.inl rfl) (pe_op op_mod (pe_op op_add (pe_op op_add (pe_op op_mul (pv 1) pe_int) (pv 2)) pe_int) pe_int))))
  (pss_one (ps_ret (pe_lst (pa_cons (pv 0) (pa_cons pe_int (pa_cons (pv 1) (pa_cons pe_int pa_nil))))))))), ?_⟩
    refine ⟨_, rfl, a, rfl, ⟨_, hS⟩, for_list (K := K) (a := a) (xs := il ns) (fun i σ H' => H = H' ∧ ∃ (m : Int) (v : Option V), σ = [some (.ref a), some (.int m), v]) ⟨rfl, _, _, rfl⟩ (fun i σ H' _ ⟨e, _⟩ => e ▸ hS) ?_ ?_⟩
    · rintro i x σ H' hx ⟨rfl, m, v, rfl⟩
      obtain ⟨hi, rfl⟩ := ints_get hx
      exact ⟨_, rfl, _, _, rfl, rfl, .inr ⟨by decide, by decide⟩, _, rfl, _, _, rfl, rfl, _, _, rfl, rfl, _, _, rfl, rfl, (by show (0 : Int) < 2147483647; decide), rfl, _, _, rfl⟩
    · rintro σ H' ⟨rfl, m, v, rfl⟩
      exact ⟨_, rfl, _, rfl, (by show 4 ≤ sizeLine; decide), fun p hp => k p m hp⟩
/-- the script may be read, whatever is done to st -/
def Scr (K : PySem.W.Frag) (H : Hp) (st a : Addr) (ns : List Int) : Prop := (a ≠ st ∧ L2.Rd H a (.lst (il ns))) ∨ ∀ H', SqL K H' a (il ns)
theorem Scr.seq {K : PySem.W.Frag} {H : Hp} {st a : Addr} {ns : List Int} (h : Scr K H st a ns) : SqL K H a (il ns) := by
  rcases h with ⟨_, h⟩ | h
  · exact .inl h
  · exact h H
theorem Scr.pr {K : PySem.W.Frag} {H H' : Hp} {st a : Addr} {ns : List Int} (h : Scr K H st a ns) (p : Pr st H H') : Scr K H' st a ns := by
  rcases h with ⟨n, h | ⟨o, h⟩⟩ | h
  · exact .inl ⟨n, .inl (p _ _ h n)⟩
  · exact .inl ⟨n, .inr ⟨o, p _ _ h n⟩⟩
  · exact .inr h
theorem Scr.of {K : PySem.W.Frag} {H : Hp} {st a : Addr} {ns : List Int} (h : SqL K H a (il ns)) (n : H st = none) (o : HO) : Scr K (upd H st o) st a ns := by
  rcases h with (h | ⟨u, h⟩) | h
  · exact .inl ⟨ne_of_none h n, .inl ((upd_ne (ne_of_none h n)).trans h)⟩
  · exact .inl ⟨ne_of_none h n, .inr ⟨u, (upd_ne (ne_of_none h n)).trans h⟩⟩
  · exact .inr fun _ => .inr h
def St3 (H : Hp) (st a : Addr) : Prop := ∃ i m r, H st = some (.lst (stt a i m r)) ∧ 0 ≤ i
def Oth (st : Addr) (H H' : Hp) : Prop := ∀ q, q ≠ st → H' q = H q
theorem Oth.pr {st : Addr} {H H' : Hp} (h : Oth st H H') : Pr st H H' := fun q o e n => (h q n).trans e
theorem Pr.trans {x : Addr} {H H1 H2 : Hp} (p : Pr x H H1) (q : Pr x H1 H2) : Pr x H H2 := fun b o e n => q b o (p b o e n) n
theorem Pr.refl (x : Addr) (H : Hp) : Pr x H H := fun _ _ e _ => e
theorem Pr.put {x p : Addr} {H H1 : Hp} {o : HO} (pr : Pr x H H1) (h : H p = none) : Pr x H (upd H1 p o) := fun q u e n => by
  rw [upd_ne (ne_of_none e h)]
  exact pr q u e n
theorem Same.pr {H H' : Hp} (s : Same H H') (x : Addr) : Pr x H H' := fun q o e _ => s q o e
theorem St3.same {H H' : Hp} {st a : Addr} (h : St3 H st a) (s : Same H H') : St3 H' st a := by
  obtain ⟨i, m, r, e, n⟩ := h
  exact ⟨i, m, r, s _ _ e, n⟩
theorem St3.put {H : Hp} {st a p : Addr} {o : HO} (h : St3 H st a) (n : st ≠ p) : St3 (upd H p o) st a := by
  obtain ⟨i, m, r, e, z⟩ := h
  exact ⟨i, m, r, (upd_ne n).trans e, z⟩
theorem St3.ne {H : Hp} {st a p : Addr} (h : St3 H st a) (n : H p = none) : st ≠ p := by
  obtain ⟨i, m, r, e, z⟩ := h
  exact ne_of_none e n
def spDrawn (K : PySem.W.Frag) : Sp := fun vs H Q _ => ∃ (st a : Addr) (many : Int) (ns : List Int), vs = [.ref st, .int many] ∧ 0 < many ∧ many < 1000000 ∧ St3 H st a ∧ Scr K H st a ns ∧
  ∀ (v : Int) (H' : Hp), 0 ≤ v → v < many → St3 H' st a → Oth st H H' → Q (.int v) H'
theorem ok_drawn (D : DefAt K mg "_law_drawn" sD__law_drawn) (T : Txt w K mg) : Cal P w K mg base 1 "_law_drawn" (spDrawn K) [] := by
  refine cal_of D sc__law_drawn (fun _ _ _ _ _ _ us hl => match us, hl with | [_, _], _ => rfl) (fun vs H Q E h => ?_) (fun cdv A outer s H vs Q E hr h => ?_)
  · obtain ⟨st, a, many, ns, rfl, _⟩ := h
    rfl
  · obtain ⟨st, a, many, ns, rfl, m0, m1, ⟨i, m, r, hst, i0⟩, hSc, kk⟩ := h
    have k : ∀ v i' m' r', 0 ≤ v → v < many → 0 ≤ i' → Q (.int v) (upd H st (.lst (stt a i' m' r'))) := fun v i' m' r' h1 h2 h3 => kk v _ h1 h2 ⟨i', m', r', upd_same, h3⟩ fun q n => upd_ne n
    have hS := hSc.seq
    refine ⟨_, (pss_cons (ps_if (pt_cmpR op_gt (pe_ix ix_list (pv 0) pe_int (fun _ _ => rfl)) pe_int (nomark _))
   (pss_cons (ps_set (i := 2) sc__law_drawn.nd rfl (Or.inl rfl) (pe_op op_mod (pe_ix ix_list (pv 0) pe_int (fun _ _ => rfl)) (pv 1)))
  (pss_cons (ps_asg (pe_op op_fdiv (pe_ix ix_list (pv 0) pe_int (fun _ _ => rfl)) (pv 1)) (pg_sub (pv 0) pe_int set_list))
  (pss_one (ps_ret (pv 2)))))
   pss_nil)
  (pss_cons (ps_asg (pe_op op_add (pe_ix ix_list (pv 0) pe_int (fun _ _ => rfl)) pe_int) (pg_sub (pv 0) pe_int set_list))
  (pss_cons (ps_if (pt_cmpR op_le (pe_ix ix_list (pv 0) pe_int (fun _ _ => rfl)) (pe_callB call_len_seq (by rfl) T.free_len (by decide +kernel) (pa_cons (pe_ix ix_list (pv 0) pe_int (fun _ _ => rfl)) pa_nil)) (nomark _))
   (pss_cons (ps_set (i := 3) sc__law_drawn.nd rfl (Or.inl rfl) (pe_ix ix_list (pe_ix ix_list (pv 0) pe_int (fun _ _ => rfl)) (pe_op op_sub (pe_ix ix_list (pv 0) pe_int (fun _ _ => rfl)) pe_int) (fun _ _ => rfl)))
  (pss_cons (ps_asg (pe_ifExp (pt_cmpR op_ge (pv 3) (pe_op op_pow pe_int pe_int) (nomark _)) (pe_op op_fdiv (pv 3) (pv 1)) pe_int) (pg_sub (pv 0) pe_int set_list))
  (pss_one (ps_ret (pe_op op_mod (pv 3) (pv 1))))))
   pss_nil)
  (pss_cons (ps_asg (pe_op op_mod (pe_op op_add (pe_op op_mul (pe_ix ix_list (pv 0) pe_int (fun _ _ => rfl)) pe_int) pe_int) pe_int) (pg_sub (pv 0) pe_int set_list))
  (pss_one (ps_ret (pe_op op_mod (pe_op op_fdiv (pe_ix ix_list (pv 0) pe_int (fun _ _ => rfl)) pe_int) (pv 1)))))))), ?_⟩
    refine ⟨_, rfl, st, _, _, _, rfl, rfl, SqL.of hst, atI_nat (j := 3) rfl, _, _, rfl, rfl, _, rfl, ?_⟩
    have md : ∀ z : Int, 0 ≤ z % many ∧ z % many < many := fun z => ⟨Int.emod_nonneg _ (by omega), Int.emod_lt_of_pos _ m0⟩
    refine ite2 (fun _ => ?_) (fun _ => ?_)
    · refine ⟨_, rfl, st, _, _, _, rfl, rfl, SqL.of hst, atI_nat (j := 3) rfl, _, rfl, _, _, rfl, rfl, m0, ?_⟩
      refine ⟨_, rfl, st, _, _, _, rfl, rfl, SqL.of hst, atI_nat (j := 3) rfl, _, rfl, _, _, rfl, rfl, ⟨m0, by omega⟩, _, rfl, st, _, _, 3, rfl, rfl, hst, rfl, ?_⟩
      exact ⟨_, rfl, k _ _ _ _ (md r).1 (md r).2 i0⟩
    · refine ⟨_, rfl, st, _, _, _, rfl, rfl, SqL.of hst, atI_nat (j := 1) rfl, _, _, rfl, rfl, _, rfl, st, _, _, 1, rfl, rfl, hst, rfl, ?_⟩
      have h1 : L2.upd H st (.lst ((stt a i m r).set 1 (.int (i + 1)))) st = some (.lst (stt a (i + 1) m r)) := upd_same
      have hS1 := (hSc.pr (Pr.at (o := .lst ((stt a i m r).set 1 (.int (i + 1)))) (Pr.refl st H))).seq
      refine ⟨_, rfl, st, _, _, _, rfl, rfl, SqL.of h1, atI_nat (j := 1) rfl, _, rfl, st, _, _, _, rfl, rfl, SqL.of h1, atI_nat (j := 0) rfl, a, _, rfl, .inl hS1, _, _, rfl, rfl, _, rfl, ?_⟩
      rw [List.length_map]
      by_cases hle : i + 1 ≤ (ns.length : Int)
      · rw [decide_eq_true hle]
        refine iteT ⟨_, rfl, st, _, _, _, rfl, rfl, SqL.of h1, atI_nat (j := 0) rfl, _, rfl, st, _, _, _, rfl, rfl, SqL.of h1, atI_nat (j := 1) rfl, _, _, rfl, rfl, a, _, _, _, rfl, rfl, hS1, ints_atI (by omega) (by omega), ?_⟩
        refine ⟨_, rfl, _, _, rfl, rfl, ⟨by decide, by decide, by decide⟩, _, _, rfl, rfl, _, rfl, ?_⟩
        refine ite2 (fun _ => ?_) (fun _ => ?_)
        · refine ⟨_, rfl, _, rfl, _, _, rfl, rfl, ⟨m0, by omega⟩, _, rfl, st, _, _, 3, rfl, rfl, h1, rfl, ?_⟩
          rw [upd_upd]
          exact ⟨_, rfl, _, rfl, _, _, rfl, rfl, m0, k _ _ _ _ (md _).1 (md _).2 (by omega)⟩
        · refine ⟨_, rfl, st, _, _, 3, rfl, rfl, h1, rfl, ?_⟩
          rw [upd_upd]
          exact ⟨_, rfl, _, rfl, _, _, rfl, rfl, m0, k _ _ _ _ (md _).1 (md _).2 (by omega)⟩
      · rw [decide_eq_false hle]
        refine iteF ⟨_, rfl, st, _, _, _, rfl, rfl, SqL.of h1, atI_nat (j := 2) rfl, _, _, rfl, rfl, .inr ⟨by decide, by decide⟩, _, _, rfl, rfl, _, _, rfl, rfl, (by show (0 : Int) < 2147483647; decide), _, rfl, st, _, _, 2, rfl, rfl, h1, rfl, ?_⟩
        rw [upd_upd]
        refine ⟨_, rfl, st, _, _, _, rfl, rfl, SqL.of upd_same, atI_nat (j := 2) rfl, _, _, rfl, rfl, ⟨by decide, by decide⟩, _, rfl, _, _, rfl, rfl, m0, k _ _ _ _ (md _).1 (md _).2 (by omega)⟩
def ctup (c : Code) : List V := [.str c.1.str, .int c.2.1, .int c.2.2.1, .int c.2.2.2]
def Cds (H : Hp) (ts : List Addr) (cs : List Code) : Prop := ts.length = cs.length ∧ ∀ (i : Nat) (t : Addr) (c : Code), ts[i]? = some t → cs[i]? = some c → H t = some (.tup (ctup c))
theorem Cds.mono {H H' : Hp} {ts : List Addr} {cs : List Code} (h : Cds H ts cs) (s : Same H H') : Cds H' ts cs := ⟨h.1, fun i t c a b => s _ _ (h.2 i t c a b)⟩
theorem Cds.snoc {H : Hp} {ts : List Addr} {cs : List Code} {t : Addr} (h : Cds H ts cs) (c : Code) (n : H t = none) : Cds (upd H t (.tup (ctup c))) (ts ++ [t]) (cs ++ [c]) := by
  refine ⟨by rw [List.length_append, List.length_append, h.1] <;> rfl, fun i u d a b => ?_⟩
  by_cases q : i < ts.length
  · rw [List.getElem?_append_left q] at a
    rw [List.getElem?_append_left (by rw [← h.1]; exact q)] at b
    exact Same.new n _ _ (h.2 i u d a b)
  · rw [List.getElem?_append_right (by omega)] at a
    rw [List.getElem?_append_right (by rw [← h.1]; omega), ← h.1] at b
    cases e : i - ts.length with
    | zero =>
      rw [e] at a b
      cases a
      cases b
      exact upd_same
    | succ j =>
      rw [e] at a
      cases a
def spCodes : Sp := fun vs H Q _ => vs = [] ∧ ∀ (H' : Hp) (p : Addr) (ts : List Addr), Same H H' → H p = none → H' p = some (.lst (ts.map V.ref)) → Cds H' ts codes → Q (.ref p) H'
theorem ok_all_codes (D : DefAt K mg "_law_all_codes" sD__law_all_codes) : Cal P w K mg base 1 "_law_all_codes" spCodes [] := by
  refine cal_of D sc__law_all_codes (fun _ _ _ _ _ _ us hl => match us, hl with | [], _ => rfl) (fun vs H Q E h => ?_) (fun cdv A outer s H vs Q E hr h => ?_)
  · obtain ⟨rfl, _⟩ := h
    rfl
  · obtain ⟨rfl, k⟩ := h
    refine ⟨_, (pss_cons (ps_set (i := 0) sc__law_all_codes.nd rfl (Or.inl rfl) (pe_lst (pa_cons (pe_tup (pa_cons pe_str (pa_cons pe_int (pa_cons pe_int (pa_cons pe_int pa_nil))))) (pa_cons (pe_tup (pa_cons pe_str (pa_cons pe_int (pa_cons pe_int (pa_cons pe_int pa_nil))))) (pa_cons (pe_tup (pa_cons pe_str (pa_cons pe_int (pa_cons pe_int (pa_cons pe_int pa_nil))))) (pa_cons (pe_tup (pa_cons pe_str (pa_cons pe_int (pa_cons pe_int (pa_cons pe_int pa_nil))))) (pa_cons (pe_tup (pa_cons pe_str (pa_cons pe_int (pa_cons pe_int (pa_cons pe_int pa_nil))))) pa_nil)))))))
  (pss_cons (ps_set (i := 0) sc__law_all_codes.nd rfl (Or.inl rfl) (pe_op op_cat (pv 0) (pe_lst (pa_cons (pe_tup (pa_cons pe_str (pa_cons pe_int (pa_cons pe_int (pa_cons pe_int pa_nil))))) (pa_cons (pe_tup (pa_cons pe_str (pa_cons pe_int (pa_cons pe_int (pa_cons pe_int pa_nil))))) (pa_cons (pe_tup (pa_cons pe_str (pa_cons pe_int (pa_cons pe_int (pa_cons pe_int pa_nil))))) (pa_cons (pe_tup (pa_cons pe_str (pa_cons pe_int (pa_cons pe_int (pa_cons pe_int pa_nil))))) (pa_cons (pe_tup (pa_cons pe_str (pa_cons pe_int (pa_cons pe_int (pa_cons pe_int pa_nil))))) pa_nil))))))))
  (pss_cons (ps_set (i := 0) sc__law_all_codes.nd rfl (Or.inl rfl) (pe_op op_cat (pv 0) (pe_lst (pa_cons (pe_tup (pa_cons pe_str (pa_cons pe_int (pa_cons pe_int (pa_cons pe_int pa_nil))))) (pa_cons (pe_tup (pa_cons pe_str (pa_cons pe_int (pa_cons pe_int (pa_cons pe_int pa_nil))))) (pa_cons (pe_tup (pa_cons pe_str (pa_cons pe_int (pa_cons pe_int (pa_cons pe_int pa_nil))))) (pa_cons (pe_tup (pa_cons pe_str (pa_cons pe_int (pa_cons pe_int (pa_cons pe_int pa_nil))))) pa_nil)))))))
  (pss_one (ps_ret (pe_op op_cat (pv 0) (pe_lst (pa_cons (pe_tup (pa_cons pe_str (pa_cons pe_int (pa_cons pe_int (pa_cons pe_int pa_nil))))) pa_nil)))))))), ?_⟩
    have sG0 : Same H H := Same.refl H
    have cG0 : Cds H [] [] := ⟨rfl, fun i t c a => by cases a⟩
    refine ⟨(by show 4 ≤ sizeLine; decide), fun t0 h0 => ?_⟩
    have sG1 : Same H (upd H t0 (.tup [.str "stop", .int 0, .int 0, .int 0])) := sG0.add h0
    have cG1 : Cds (upd H t0 (.tup [.str "stop", .int 0, .int 0, .int 0])) ([] ++ [t0]) ([] ++ [(.stop, 0, 0, 0)]) := cG0.snoc (.stop, 0, 0, 0) h0
    generalize upd H t0 (.tup [.str "stop", .int 0, .int 0, .int 0]) = G1 at sG1 cG1 ⊢
    refine ⟨(by show 4 ≤ sizeLine; decide), fun t1 h1 => ?_⟩
    have sG2 : Same H (upd G1 t1 (.tup [.str "back", .int 1, .int 0, .int 0])) := sG1.add h1
    have cG2 : Cds (upd G1 t1 (.tup [.str "back", .int 1, .int 0, .int 0])) ([t0] ++ [t1]) ([(.stop, 0, 0, 0)] ++ [(.back, 1, 0, 0)]) := cG1.snoc (.back, 1, 0, 0) h1
    generalize upd G1 t1 (.tup [.str "back", .int 1, .int 0, .int 0]) = G2 at sG2 cG2 ⊢
    refine ⟨(by show 4 ≤ sizeLine; decide), fun t2 h2 => ?_⟩
    have sG3 : Same H (upd G2 t2 (.tup [.str "say", .int 4, .int 1, .int 0])) := sG2.add h2
    have cG3 : Cds (upd G2 t2 (.tup [.str "say", .int 4, .int 1, .int 0])) ([t0, t1] ++ [t2]) ([(.stop, 0, 0, 0), (.back, 1, 0, 0)] ++ [(.say, 4, 1, 0)]) := cG2.snoc (.say, 4, 1, 0) h2
    generalize upd G2 t2 (.tup [.str "say", .int 4, .int 1, .int 0]) = G3 at sG3 cG3 ⊢
    refine ⟨(by show 4 ≤ sizeLine; decide), fun t3 h3 => ?_⟩
    have sG4 : Same H (upd G3 t3 (.tup [.str "take!", .int 16, .int 1, .int 1])) := sG3.add h3
    have cG4 : Cds (upd G3 t3 (.tup [.str "take!", .int 16, .int 1, .int 1])) ([t0, t1, t2] ++ [t3]) ([(.stop, 0, 0, 0), (.back, 1, 0, 0), (.say, 4, 1, 0)] ++ [(.takeL, 16, 1, 1)]) := cG3.snoc (.takeL, 16, 1, 1) h3
    generalize upd G3 t3 (.tup [.str "take!", .int 16, .int 1, .int 1]) = G4 at sG4 cG4 ⊢
    refine ⟨(by show 4 ≤ sizeLine; decide), fun t4 h4 => ?_⟩
    have sG5 : Same H (upd G4 t4 (.tup [.str "move", .int 32, .int 2, .int 0])) := sG4.add h4
    have cG5 : Cds (upd G4 t4 (.tup [.str "move", .int 32, .int 2, .int 0])) ([t0, t1, t2, t3] ++ [t4]) ([(.stop, 0, 0, 0), (.back, 1, 0, 0), (.say, 4, 1, 0), (.takeL, 16, 1, 1)] ++ [(.move, 32, 2, 0)]) := cG4.snoc (.move, 32, 2, 0) h4
    generalize upd G4 t4 (.tup [.str "move", .int 32, .int 2, .int 0]) = G5 at sG5 cG5 ⊢
    refine ⟨(by show 5 ≤ sizeLine; decide), fun l0 hl0 => ?_⟩
    have sL0 : Same H (upd G5 l0 (.lst [.ref t0, .ref t1, .ref t2, .ref t3, .ref t4])) := sG5.add hl0
    have cL0 := cG5.mono (Same.new (o := .lst [.ref t0, .ref t1, .ref t2, .ref t3, .ref t4]) hl0)
    have pL0 : (upd G5 l0 (.lst [.ref t0, .ref t1, .ref t2, .ref t3, .ref t4])) l0 = some (.lst [.ref t0, .ref t1, .ref t2, .ref t3, .ref t4]) := upd_same
    have zL0 : H l0 = none := sG5.free hl0
    generalize upd G5 l0 (.lst [.ref t0, .ref t1, .ref t2, .ref t3, .ref t4]) = L0 at sL0 cL0 pL0 ⊢
    refine ⟨_, rfl, ?_⟩
    refine ⟨(by show 4 ≤ sizeLine; decide), fun t5 h5 => ?_⟩
    have sG6 : Same H (upd L0 t5 (.tup [.str "add", .int 48, .int 2, .int 0])) := sL0.add h5
    have cG6 : Cds (upd L0 t5 (.tup [.str "add", .int 48, .int 2, .int 0])) ([t0, t1, t2, t3, t4] ++ [t5]) ([(.stop, 0, 0, 0), (.back, 1, 0, 0), (.say, 4, 1, 0), (.takeL, 16, 1, 1), (.move, 32, 2, 0)] ++ [(.add, 48, 2, 0)]) := cL0.snoc (.add, 48, 2, 0) h5
    have qG6 := Same.new (o := .tup [.str "add", .int 48, .int 2, .int 0]) h5 _ _ pL0
    generalize upd L0 t5 (.tup [.str "add", .int 48, .int 2, .int 0]) = G6 at sG6 cG6 qG6 ⊢
    refine ⟨(by show 4 ≤ sizeLine; decide), fun t6 h6 => ?_⟩
    have sG7 : Same H (upd G6 t6 (.tup [.str "less", .int 64, .int 2, .int 0])) := sG6.add h6
    have cG7 : Cds (upd G6 t6 (.tup [.str "less", .int 64, .int 2, .int 0])) ([t0, t1, t2, t3, t4, t5] ++ [t6]) ([(.stop, 0, 0, 0), (.back, 1, 0, 0), (.say, 4, 1, 0), (.takeL, 16, 1, 1), (.move, 32, 2, 0), (.add, 48, 2, 0)] ++ [(.less, 64, 2, 0)]) := cG6.snoc (.less, 64, 2, 0) h6
    have qG7 := Same.new (o := .tup [.str "less", .int 64, .int 2, .int 0]) h6 _ _ qG6
    generalize upd G6 t6 (.tup [.str "less", .int 64, .int 2, .int 0]) = G7 at sG7 cG7 qG7 ⊢
    refine ⟨(by show 4 ≤ sizeLine; decide), fun t7 h7 => ?_⟩
    have sG8 : Same H (upd G7 t7 (.tup [.str "load", .int 80, .int 1, .int 1])) := sG7.add h7
    have cG8 : Cds (upd G7 t7 (.tup [.str "load", .int 80, .int 1, .int 1])) ([t0, t1, t2, t3, t4, t5, t6] ++ [t7]) ([(.stop, 0, 0, 0), (.back, 1, 0, 0), (.say, 4, 1, 0), (.takeL, 16, 1, 1), (.move, 32, 2, 0), (.add, 48, 2, 0), (.less, 64, 2, 0)] ++ [(.load, 80, 1, 1)]) := cG7.snoc (.load, 80, 1, 1) h7
    have qG8 := Same.new (o := .tup [.str "load", .int 80, .int 1, .int 1]) h7 _ _ qG7
    generalize upd G7 t7 (.tup [.str "load", .int 80, .int 1, .int 1]) = G8 at sG8 cG8 qG8 ⊢
    refine ⟨(by show 4 ≤ sizeLine; decide), fun t8 h8 => ?_⟩
    have sG9 : Same H (upd G8 t8 (.tup [.str "store", .int 84, .int 1, .int 1])) := sG8.add h8
    have cG9 : Cds (upd G8 t8 (.tup [.str "store", .int 84, .int 1, .int 1])) ([t0, t1, t2, t3, t4, t5, t6, t7] ++ [t8]) ([(.stop, 0, 0, 0), (.back, 1, 0, 0), (.say, 4, 1, 0), (.takeL, 16, 1, 1), (.move, 32, 2, 0), (.add, 48, 2, 0), (.less, 64, 2, 0), (.load, 80, 1, 1)] ++ [(.store, 84, 1, 1)]) := cG8.snoc (.store, 84, 1, 1) h8
    have qG9 := Same.new (o := .tup [.str "store", .int 84, .int 1, .int 1]) h8 _ _ qG8
    generalize upd G8 t8 (.tup [.str "store", .int 84, .int 1, .int 1]) = G9 at sG9 cG9 qG9 ⊢
    refine ⟨(by show 4 ≤ sizeLine; decide), fun t9 h9 => ?_⟩
    have sG10 : Same H (upd G9 t9 (.tup [.str "jump", .int 96, .int 0, .int 1])) := sG9.add h9
    have cG10 : Cds (upd G9 t9 (.tup [.str "jump", .int 96, .int 0, .int 1])) ([t0, t1, t2, t3, t4, t5, t6, t7, t8] ++ [t9]) ([(.stop, 0, 0, 0), (.back, 1, 0, 0), (.say, 4, 1, 0), (.takeL, 16, 1, 1), (.move, 32, 2, 0), (.add, 48, 2, 0), (.less, 64, 2, 0), (.load, 80, 1, 1), (.store, 84, 1, 1)] ++ [(.jump, 96, 0, 1)]) := cG9.snoc (.jump, 96, 0, 1) h9
    have qG10 := Same.new (o := .tup [.str "jump", .int 96, .int 0, .int 1]) h9 _ _ qG9
    generalize upd G9 t9 (.tup [.str "jump", .int 96, .int 0, .int 1]) = G10 at sG10 cG10 qG10 ⊢
    refine ⟨(by show 5 ≤ sizeLine; decide), fun l1 hl1 => ?_⟩
    have sL1 : Same H (upd G10 l1 (.lst [.ref t5, .ref t6, .ref t7, .ref t8, .ref t9])) := sG10.add hl1
    have cL1 := cG10.mono (Same.new (o := .lst [.ref t5, .ref t6, .ref t7, .ref t8, .ref t9]) hl1)
    have pL1 : (upd G10 l1 (.lst [.ref t5, .ref t6, .ref t7, .ref t8, .ref t9])) l1 = some (.lst [.ref t5, .ref t6, .ref t7, .ref t8, .ref t9]) := upd_same
    have zL1 : H l1 = none := sG10.free hl1
    have qL1 := Same.new (o := .lst [.ref t5, .ref t6, .ref t7, .ref t8, .ref t9]) hl1 _ _ qG10
    generalize upd G10 l1 (.lst [.ref t5, .ref t6, .ref t7, .ref t8, .ref t9]) = L1 at sL1 cL1 pL1 qL1 ⊢
    refine ⟨l0, l1, _, _, rfl, rfl, qL1, pL1, (by show 10 ≤ sizeLine; decide), fun m1 hm1 => ?_⟩
    have sC1 : Same H (upd L1 m1 (.lst ([.ref t0, .ref t1, .ref t2, .ref t3, .ref t4] ++ [.ref t5, .ref t6, .ref t7, .ref t8, .ref t9]))) := sL1.add hm1
    have cC1 := cL1.mono (Same.new (o := .lst ([.ref t0, .ref t1, .ref t2, .ref t3, .ref t4] ++ [.ref t5, .ref t6, .ref t7, .ref t8, .ref t9])) hm1)
    have pC1 : (upd L1 m1 (.lst ([.ref t0, .ref t1, .ref t2, .ref t3, .ref t4] ++ [.ref t5, .ref t6, .ref t7, .ref t8, .ref t9]))) m1 = some (.lst [.ref t0, .ref t1, .ref t2, .ref t3, .ref t4, .ref t5, .ref t6, .ref t7, .ref t8, .ref t9]) := upd_same
    have zC1 : H m1 = none := sL1.free hm1
    generalize upd L1 m1 (.lst ([.ref t0, .ref t1, .ref t2, .ref t3, .ref t4] ++ [.ref t5, .ref t6, .ref t7, .ref t8, .ref t9])) = C1 at sC1 cC1 pC1 ⊢
    refine ⟨_, rfl, ?_⟩
    refine ⟨(by show 4 ≤ sizeLine; decide), fun t10 h10 => ?_⟩
    have sG11 : Same H (upd C1 t10 (.tup [.str "call", .int 97, .int 0, .int 1])) := sC1.add h10
    have cG11 : Cds (upd C1 t10 (.tup [.str "call", .int 97, .int 0, .int 1])) ([t0, t1, t2, t3, t4, t5, t6, t7, t8, t9] ++ [t10]) ([(.stop, 0, 0, 0), (.back, 1, 0, 0), (.say, 4, 1, 0), (.takeL, 16, 1, 1), (.move, 32, 2, 0), (.add, 48, 2, 0), (.less, 64, 2, 0), (.load, 80, 1, 1), (.store, 84, 1, 1), (.jump, 96, 0, 1)] ++ [(.call, 97, 0, 1)]) := cC1.snoc (.call, 97, 0, 1) h10
    have qG11 := Same.new (o := .tup [.str "call", .int 97, .int 0, .int 1]) h10 _ _ pC1
    generalize upd C1 t10 (.tup [.str "call", .int 97, .int 0, .int 1]) = G11 at sG11 cG11 qG11 ⊢
    refine ⟨(by show 4 ≤ sizeLine; decide), fun t11 h11 => ?_⟩
    have sG12 : Same H (upd G11 t11 (.tup [.str "skip", .int 99, .int 0, .int 1])) := sG11.add h11
    have cG12 : Cds (upd G11 t11 (.tup [.str "skip", .int 99, .int 0, .int 1])) ([t0, t1, t2, t3, t4, t5, t6, t7, t8, t9, t10] ++ [t11]) ([(.stop, 0, 0, 0), (.back, 1, 0, 0), (.say, 4, 1, 0), (.takeL, 16, 1, 1), (.move, 32, 2, 0), (.add, 48, 2, 0), (.less, 64, 2, 0), (.load, 80, 1, 1), (.store, 84, 1, 1), (.jump, 96, 0, 1), (.call, 97, 0, 1)] ++ [(.skip, 99, 0, 1)]) := cG11.snoc (.skip, 99, 0, 1) h11
    have qG12 := Same.new (o := .tup [.str "skip", .int 99, .int 0, .int 1]) h11 _ _ qG11
    generalize upd G11 t11 (.tup [.str "skip", .int 99, .int 0, .int 1]) = G12 at sG12 cG12 qG12 ⊢
    refine ⟨(by show 4 ≤ sizeLine; decide), fun t12 h12 => ?_⟩
    have sG13 : Same H (upd G12 t12 (.tup [.str "zero", .int 100, .int 1, .int 1])) := sG12.add h12
    have cG13 : Cds (upd G12 t12 (.tup [.str "zero", .int 100, .int 1, .int 1])) ([t0, t1, t2, t3, t4, t5, t6, t7, t8, t9, t10, t11] ++ [t12]) ([(.stop, 0, 0, 0), (.back, 1, 0, 0), (.say, 4, 1, 0), (.takeL, 16, 1, 1), (.move, 32, 2, 0), (.add, 48, 2, 0), (.less, 64, 2, 0), (.load, 80, 1, 1), (.store, 84, 1, 1), (.jump, 96, 0, 1), (.call, 97, 0, 1), (.skip, 99, 0, 1)] ++ [(.zero, 100, 1, 1)]) := cG12.snoc (.zero, 100, 1, 1) h12
    have qG13 := Same.new (o := .tup [.str "zero", .int 100, .int 1, .int 1]) h12 _ _ qG12
    generalize upd G12 t12 (.tup [.str "zero", .int 100, .int 1, .int 1]) = G13 at sG13 cG13 qG13 ⊢
    refine ⟨(by show 4 ≤ sizeLine; decide), fun t13 h13 => ?_⟩
    have sG14 : Same H (upd G13 t13 (.tup [.str "same", .int 112, .int 2, .int 1])) := sG13.add h13
    have cG14 : Cds (upd G13 t13 (.tup [.str "same", .int 112, .int 2, .int 1])) ([t0, t1, t2, t3, t4, t5, t6, t7, t8, t9, t10, t11, t12] ++ [t13]) ([(.stop, 0, 0, 0), (.back, 1, 0, 0), (.say, 4, 1, 0), (.takeL, 16, 1, 1), (.move, 32, 2, 0), (.add, 48, 2, 0), (.less, 64, 2, 0), (.load, 80, 1, 1), (.store, 84, 1, 1), (.jump, 96, 0, 1), (.call, 97, 0, 1), (.skip, 99, 0, 1), (.zero, 100, 1, 1)] ++ [(.same, 112, 2, 1)]) := cG13.snoc (.same, 112, 2, 1) h13
    have qG14 := Same.new (o := .tup [.str "same", .int 112, .int 2, .int 1]) h13 _ _ qG13
    generalize upd G13 t13 (.tup [.str "same", .int 112, .int 2, .int 1]) = G14 at sG14 cG14 qG14 ⊢
    refine ⟨(by show 4 ≤ sizeLine; decide), fun l2 hl2 => ?_⟩
    have sL2 : Same H (upd G14 l2 (.lst [.ref t10, .ref t11, .ref t12, .ref t13])) := sG14.add hl2
    have cL2 := cG14.mono (Same.new (o := .lst [.ref t10, .ref t11, .ref t12, .ref t13]) hl2)
    have pL2 : (upd G14 l2 (.lst [.ref t10, .ref t11, .ref t12, .ref t13])) l2 = some (.lst [.ref t10, .ref t11, .ref t12, .ref t13]) := upd_same
    have zL2 : H l2 = none := sG14.free hl2
    have qL2 := Same.new (o := .lst [.ref t10, .ref t11, .ref t12, .ref t13]) hl2 _ _ qG14
    generalize upd G14 l2 (.lst [.ref t10, .ref t11, .ref t12, .ref t13]) = L2 at sL2 cL2 pL2 qL2 ⊢
    refine ⟨m1, l2, _, _, rfl, rfl, qL2, pL2, (by show 14 ≤ sizeLine; decide), fun m2 hm2 => ?_⟩
    have sC2 : Same H (upd L2 m2 (.lst ([.ref t0, .ref t1, .ref t2, .ref t3, .ref t4, .ref t5, .ref t6, .ref t7, .ref t8, .ref t9] ++ [.ref t10, .ref t11, .ref t12, .ref t13]))) := sL2.add hm2
    have cC2 := cL2.mono (Same.new (o := .lst ([.ref t0, .ref t1, .ref t2, .ref t3, .ref t4, .ref t5, .ref t6, .ref t7, .ref t8, .ref t9] ++ [.ref t10, .ref t11, .ref t12, .ref t13])) hm2)
    have pC2 : (upd L2 m2 (.lst ([.ref t0, .ref t1, .ref t2, .ref t3, .ref t4, .ref t5, .ref t6, .ref t7, .ref t8, .ref t9] ++ [.ref t10, .ref t11, .ref t12, .ref t13]))) m2 = some (.lst [.ref t0, .ref t1, .ref t2, .ref t3, .ref t4, .ref t5, .ref t6, .ref t7, .ref t8, .ref t9, .ref t10, .ref t11, .ref t12, .ref t13]) := upd_same
    have zC2 : H m2 = none := sL2.free hm2
    generalize upd L2 m2 (.lst ([.ref t0, .ref t1, .ref t2, .ref t3, .ref t4, .ref t5, .ref t6, .ref t7, .ref t8, .ref t9] ++ [.ref t10, .ref t11, .ref t12, .ref t13])) = C2 at sC2 cC2 pC2 ⊢
    refine ⟨_, rfl, ?_⟩
    refine ⟨(by show 4 ≤ sizeLine; decide), fun t14 h14 => ?_⟩
    have sG15 : Same H (upd C2 t14 (.tup [.str "copy", .int 128, .int 0, .int 2])) := sC2.add h14
    have cG15 : Cds (upd C2 t14 (.tup [.str "copy", .int 128, .int 0, .int 2])) ([t0, t1, t2, t3, t4, t5, t6, t7, t8, t9, t10, t11, t12, t13] ++ [t14]) ([(.stop, 0, 0, 0), (.back, 1, 0, 0), (.say, 4, 1, 0), (.takeL, 16, 1, 1), (.move, 32, 2, 0), (.add, 48, 2, 0), (.less, 64, 2, 0), (.load, 80, 1, 1), (.store, 84, 1, 1), (.jump, 96, 0, 1), (.call, 97, 0, 1), (.skip, 99, 0, 1), (.zero, 100, 1, 1), (.same, 112, 2, 1)] ++ [(.copy, 128, 0, 2)]) := cC2.snoc (.copy, 128, 0, 2) h14
    have qG15 := Same.new (o := .tup [.str "copy", .int 128, .int 0, .int 2]) h14 _ _ pC2
    generalize upd C2 t14 (.tup [.str "copy", .int 128, .int 0, .int 2]) = G15 at sG15 cG15 qG15 ⊢
    refine ⟨(by show 1 ≤ sizeLine; decide), fun l3 hl3 => ?_⟩
    have sL3 : Same H (upd G15 l3 (.lst [.ref t14])) := sG15.add hl3
    have cL3 := cG15.mono (Same.new (o := .lst [.ref t14]) hl3)
    have pL3 : (upd G15 l3 (.lst [.ref t14])) l3 = some (.lst [.ref t14]) := upd_same
    have zL3 : H l3 = none := sG15.free hl3
    have qL3 := Same.new (o := .lst [.ref t14]) hl3 _ _ qG15
    generalize upd G15 l3 (.lst [.ref t14]) = L3 at sL3 cL3 pL3 qL3 ⊢
    refine ⟨m2, l3, _, _, rfl, rfl, qL3, pL3, (by show 15 ≤ sizeLine; decide), fun m3 hm3 => ?_⟩
    have sC3 : Same H (upd L3 m3 (.lst ([.ref t0, .ref t1, .ref t2, .ref t3, .ref t4, .ref t5, .ref t6, .ref t7, .ref t8, .ref t9, .ref t10, .ref t11, .ref t12, .ref t13] ++ [.ref t14]))) := sL3.add hm3
    have cC3 := cL3.mono (Same.new (o := .lst ([.ref t0, .ref t1, .ref t2, .ref t3, .ref t4, .ref t5, .ref t6, .ref t7, .ref t8, .ref t9, .ref t10, .ref t11, .ref t12, .ref t13] ++ [.ref t14])) hm3)
    have pC3 : (upd L3 m3 (.lst ([.ref t0, .ref t1, .ref t2, .ref t3, .ref t4, .ref t5, .ref t6, .ref t7, .ref t8, .ref t9, .ref t10, .ref t11, .ref t12, .ref t13] ++ [.ref t14]))) m3 = some (.lst [.ref t0, .ref t1, .ref t2, .ref t3, .ref t4, .ref t5, .ref t6, .ref t7, .ref t8, .ref t9, .ref t10, .ref t11, .ref t12, .ref t13, .ref t14]) := upd_same
    have zC3 : H m3 = none := sL3.free hm3
    generalize upd L3 m3 (.lst ([.ref t0, .ref t1, .ref t2, .ref t3, .ref t4, .ref t5, .ref t6, .ref t7, .ref t8, .ref t9, .ref t10, .ref t11, .ref t12, .ref t13] ++ [.ref t14])) = C3 at sC3 cC3 pC3 ⊢
    exact k C3 m3 [t0, t1, t2, t3, t4, t5, t6, t7, t8, t9, t10, t11, t12, t13, t14] sC3 zC3 pC3 cC3
end
end Rs
/-! Frame, Macro, Reader, Row: what is made -/
namespace Rs
open PySem PySem.Spec PyProof.Rows L2 C8
section
variable {P : Program} {w : World} {K : PySem.W.Frag} {mg : Str → Option Value} {base : Heap} {C : Addr}
def spInitF (C : Addr) : Sp := fun vs H Q _ => ∃ (x dx : Addr) (row reach : Int) (own : Str), vs = [.ref x, .int row, .int reach, .str own] ∧ H x = some (.ins C dx []) ∧ ∀ (H' : Hp) (A : Fd), A.x = x → FAt C H' A ⟨row, reach, own, [], []⟩ → H A.b = none → H A.s = none → A.b ≠ A.s → Pr x H H' → Q .non H'
theorem ok_Finit {f : Addr} {fd : FuncData} (F : FnP K "__init__" "Frame.__init__" sD_Frameinit f fd) (M' : TxtF K C) : FnOk P w K mg base L2.CX0 1 f fd ["self", "row", "reach", "own"] (spInitF C) := by
  refine fnok_of F sc_Frameinit (fun vs H Q E h => ?_) (fun cdv Ar outer s H vs Q E hr h => ?_)
  · obtain ⟨x, dx, row, reach, own, rfl, _⟩ := h
    rfl
  · obtain ⟨x, dx, row, reach, own, rfl, hx, k⟩ := h
    refine ⟨_, (pss_cons (ps_fld (pv 0) (pv 1) rfl)
  (pss_cons (ps_fld (pv 0) (pv 2) rfl)
  (pss_cons (ps_fld (pv 0) (pv 3) rfl)
  (pss_cons (ps_fld (pv 0) pe_dnewK rfl)
  (pss_one (ps_fld (pv 0) pe_dnewK rfl)))))), ?_⟩
    refine ⟨_, rfl, _, rfl, x, C, dx, [], rfl, hx, M'.cl, M'.row, (by show 0 < 1000; decide), ?_⟩
    have x1 : upd H x (.ins C dx (putF "row" (.int row) [])) x = some (.ins C dx [("row", .int row)]) := upd_same
    have p1 : Pr x H (upd H x (.ins C dx (putF "row" (.int row) []))) := Pr.at (fun q o e _ => e)
    generalize upd H x (.ins C dx (putF "row" (.int row) [])) = H1 at x1 p1 ⊢
    refine ⟨_, rfl, _, rfl, x, C, dx, _, rfl, x1, M'.cl, M'.reach, (by show 1 < 1000; decide), ?_⟩
    have x2 : upd H1 x (.ins C dx (putF "reach" (.int reach) [("row", .int row)])) x = some (.ins C dx [("row", .int row), ("reach", .int reach)]) := upd_same
    have p2 : Pr x H (upd H1 x (.ins C dx (putF "reach" (.int reach) [("row", .int row)]))) := p1.at
    generalize upd H1 x (.ins C dx (putF "reach" (.int reach) [("row", .int row)])) = H2 at x2 p2 ⊢
    refine ⟨_, rfl, _, rfl, x, C, dx, _, rfl, x2, M'.cl, M'.own, (by show 2 < 1000; decide), ?_⟩
    have x3 : upd H2 x (.ins C dx (putF "own" (.str own) [("row", .int row), ("reach", .int reach)])) x = some (.ins C dx [("row", .int row), ("reach", .int reach), ("own", .str own)]) := upd_same
    have p3 : Pr x H (upd H2 x (.ins C dx (putF "own" (.str own) [("row", .int row), ("reach", .int reach)]))) := p2.at
    generalize upd H2 x (.ins C dx (putF "own" (.str own) [("row", .int row), ("reach", .int reach)])) = H3 at x3 p3 ⊢
    refine fun b hb => ⟨_, rfl, x, C, dx, _, rfl, (upd_ne (ne_of_none x3 hb)).trans x3, M'.cl, M'.boxes, (by show 3 < 1000; decide), ?_⟩
    have nb : x ≠ b := ne_of_none x3 hb
    have zb : H b = none := p3.fresh x3 hb
    have x4 : upd (upd H3 b (.dK [])) x (.ins C dx (putF "boxes" (.ref b) [("row", .int row), ("reach", .int reach), ("own", .str own)])) x = some (.ins C dx [("row", .int row), ("reach", .int reach), ("own", .str own), ("boxes", .ref b)]) := upd_same
    have b4 : upd (upd H3 b (.dK [])) x (.ins C dx (putF "boxes" (.ref b) [("row", .int row), ("reach", .int reach), ("own", .str own)])) b = some (.dK []) := (upd_ne nb.symm).trans upd_same
    have p4 : Pr x H (upd (upd H3 b (.dK [])) x (.ins C dx (putF "boxes" (.ref b) [("row", .int row), ("reach", .int reach), ("own", .str own)]))) := (p3.add hb).at
    generalize upd (upd H3 b (.dK [])) x (.ins C dx (putF "boxes" (.ref b) [("row", .int row), ("reach", .int reach), ("own", .str own)])) = H4 at x4 b4 p4 ⊢
    refine fun t ht => ⟨_, rfl, x, C, dx, _, rfl, (upd_ne (ne_of_none x4 ht)).trans x4, M'.cl, M'.sums, (by show 4 < 1000; decide), ?_⟩
    have nt : x ≠ t := ne_of_none x4 ht
    have nbt : b ≠ t := ne_of_none b4 ht
    have zt : H t = none := p4.fresh x4 ht
    exact k _ ⟨x, dx, b, t⟩ rfl ⟨upd_same, (upd_ne nb.symm).trans ((upd_ne nbt).trans b4), (upd_ne nt.symm).trans upd_same⟩ zb zt nbt ((p4.add ht).at)
end
end Rs
/-! Row, Macro, Reader as they are made (the proofs by tools/init.py) -/
namespace Rs
open PySem PySem.Spec PyProof.Rows L2 C8
/-- a row's fields -/
structure Rv where
  row : Int
  label : Str
  op : Str
  boxes : Addr
  sums : Addr
  gives : Str
  amount : Int
  place : Int
  long : Bool
  words : Addr
def rf (R : Rv) : List (Str × V) := [("row", .int R.row), ("label", .str R.label), ("op", .str R.op), ("boxes", .ref R.boxes), ("sums", .ref R.sums), ("gives", .str R.gives), ("amount", .int R.amount), ("place", .int R.place), ("long", .bl R.long), ("words", .ref R.words)]
structure TxtMc (K : PySem.W.Frag) (C : Addr) : Prop where
  cl : Cls K C
  ahead : NoAttr K C "ahead"
  params : NoAttr K C "params"
  rows : NoAttr K C "rows"
structure TxtRd (K : PySem.W.Frag) (C : Addr) : Prop where
  cl : Cls K C
  macros : NoAttr K C "macros"
  begun : NoAttr K C "begun"
  head : NoAttr K C "head"
  calls : NoAttr K C "calls"
  rows : NoAttr K C "rows"
section
variable {P : Program} {w : World} {K : PySem.W.Frag} {mg : Str → Option Value} {base : Heap} {C : Addr}
def spInitR (C : Addr) : Sp := fun vs H Q _ => ∃ (x dx : Addr) (row : Int), vs = [.ref x, .int row] ∧ H x = some (.ins C dx []) ∧ ∀ (H' : Hp) (b s t : Addr), H' x = some (.ins C dx (rf ⟨row, "", "", b, s, "", 0, 0, false, t⟩)) → H' b = some (.lst []) → H' s = some (.lst []) → H' t = some (.tup []) → H b = none → H s = none → H t = none → b ≠ s → Pr x H H' → Q .non H'
theorem ok_Rinit {f : Addr} {fd : FuncData} (F : FnP K "__init__" "Row.__init__" sD_Rowinit f fd) (M' : TxtR K C) : FnOk P w K mg base L2.CX0 1 f fd ["self", "row"] (spInitR C) := by
  refine fnok_of F sc_Rowinit (fun vs H Q E h => ?_) (fun cdv Ar outer s H vs Q E hr h => ?_)
  · obtain ⟨x, dx, row, rfl, _⟩ := h
    rfl
  · obtain ⟨x, dx, row, rfl, hx, k⟩ := h
    refine ⟨_, (pss_cons (ps_fld (pv 0) (pv 1) rfl)
  (pss_cons (ps_fld (pv 0) pe_str rfl)
  (pss_cons (ps_fld (pv 0) pe_str rfl)
  (pss_cons (ps_fld (pv 0) (pe_lst pa_nil) rfl)
  (pss_cons (ps_fld (pv 0) (pe_lst pa_nil) rfl)
  (pss_cons (ps_fld (pv 0) pe_str rfl)
  (pss_cons (ps_fld (pv 0) pe_int rfl)
  (pss_cons (ps_fld (pv 0) pe_int rfl)
  (pss_cons (ps_fld (pv 0) pe_bl rfl)
  (pss_one (ps_fld (pv 0) (pe_tup pa_nil) rfl))))))))))), ?_⟩
    refine ⟨_, rfl, _, rfl, x, C, dx, _, rfl, hx, M'.cl, M'.row, (by show 0 < 1000; decide), ?_⟩
    have x0 : upd H x (.ins C dx (putF "row" (.int row) [])) x = some (.ins C dx [("row", .int row)]) := upd_same
    have p0 : Pr x H (upd H x (.ins C dx (putF "row" (.int row) []))) := ((Pr.refl x H)).at
    generalize upd H x (.ins C dx (putF "row" (.int row) [])) = H0 at x0 p0 ⊢
    refine ⟨_, rfl, x, C, dx, _, rfl, x0, M'.cl, M'.label, (by show 1 < 1000; decide), ?_⟩
    have x1 : upd H0 x (.ins C dx (putF "label" (.str "") [("row", .int row)])) x = some (.ins C dx [("row", .int row), ("label", .str "")]) := upd_same
    have p1 : Pr x H (upd H0 x (.ins C dx (putF "label" (.str "") [("row", .int row)]))) := (p0).at
    generalize upd H0 x (.ins C dx (putF "label" (.str "") [("row", .int row)])) = H1 at x1 p1 ⊢
    refine ⟨_, rfl, x, C, dx, _, rfl, x1, M'.cl, M'.op, (by show 2 < 1000; decide), ?_⟩
    have x2 : upd H1 x (.ins C dx (putF "op" (.str "") [("row", .int row), ("label", .str "")])) x = some (.ins C dx [("row", .int row), ("label", .str ""), ("op", .str "")]) := upd_same
    have p2 : Pr x H (upd H1 x (.ins C dx (putF "op" (.str "") [("row", .int row), ("label", .str "")]))) := (p1).at
    generalize upd H1 x (.ins C dx (putF "op" (.str "") [("row", .int row), ("label", .str "")])) = H2 at x2 p2 ⊢
    refine ⟨Nat.zero_le _, fun a_boxes h_boxes => ⟨_, rfl, x, C, dx, _, rfl, (upd_ne (ne_of_none x2 h_boxes)).trans x2, M'.cl, M'.boxes, (by show 3 < 1000; decide), ?_⟩⟩
    have n_boxes : x ≠ a_boxes := ne_of_none x2 h_boxes
    have z_boxes : H a_boxes = none := Pr.fresh p2 x2 h_boxes
    have x3 : upd (upd H2 a_boxes (.lst [])) x (.ins C dx (putF "boxes" (.ref a_boxes) [("row", .int row), ("label", .str ""), ("op", .str "")])) x = some (.ins C dx [("row", .int row), ("label", .str ""), ("op", .str ""), ("boxes", .ref a_boxes)]) := upd_same
    have e_boxes3 : upd (upd H2 a_boxes (.lst [])) x (.ins C dx (putF "boxes" (.ref a_boxes) [("row", .int row), ("label", .str ""), ("op", .str "")])) a_boxes = some (.lst []) := (upd_ne n_boxes.symm).trans upd_same
    have p3 : Pr x H (upd (upd H2 a_boxes (.lst [])) x (.ins C dx (putF "boxes" (.ref a_boxes) [("row", .int row), ("label", .str ""), ("op", .str "")]))) := (Pr.add p2 h_boxes).at
    generalize upd (upd H2 a_boxes (.lst [])) x (.ins C dx (putF "boxes" (.ref a_boxes) [("row", .int row), ("label", .str ""), ("op", .str "")])) = H3 at x3 e_boxes3 p3 ⊢
    refine ⟨Nat.zero_le _, fun a_sums h_sums => ⟨_, rfl, x, C, dx, _, rfl, (upd_ne (ne_of_none x3 h_sums)).trans x3, M'.cl, M'.sums, (by show 4 < 1000; decide), ?_⟩⟩
    have n_sums : x ≠ a_sums := ne_of_none x3 h_sums
    have n_boxes_sums : a_boxes ≠ a_sums := ne_of_none e_boxes3 h_sums
    have z_sums : H a_sums = none := Pr.fresh p3 x3 h_sums
    have x4 : upd (upd H3 a_sums (.lst [])) x (.ins C dx (putF "sums" (.ref a_sums) [("row", .int row), ("label", .str ""), ("op", .str ""), ("boxes", .ref a_boxes)])) x = some (.ins C dx [("row", .int row), ("label", .str ""), ("op", .str ""), ("boxes", .ref a_boxes), ("sums", .ref a_sums)]) := upd_same
    have e_boxes4 : upd (upd H3 a_sums (.lst [])) x (.ins C dx (putF "sums" (.ref a_sums) [("row", .int row), ("label", .str ""), ("op", .str ""), ("boxes", .ref a_boxes)])) a_boxes = some (.lst []) := (upd_ne n_boxes.symm).trans ((upd_ne n_boxes_sums).trans e_boxes3)
    have e_sums4 : upd (upd H3 a_sums (.lst [])) x (.ins C dx (putF "sums" (.ref a_sums) [("row", .int row), ("label", .str ""), ("op", .str ""), ("boxes", .ref a_boxes)])) a_sums = some (.lst []) := (upd_ne n_sums.symm).trans upd_same
    have p4 : Pr x H (upd (upd H3 a_sums (.lst [])) x (.ins C dx (putF "sums" (.ref a_sums) [("row", .int row), ("label", .str ""), ("op", .str ""), ("boxes", .ref a_boxes)]))) := (Pr.add p3 h_sums).at
    generalize upd (upd H3 a_sums (.lst [])) x (.ins C dx (putF "sums" (.ref a_sums) [("row", .int row), ("label", .str ""), ("op", .str ""), ("boxes", .ref a_boxes)])) = H4 at x4 e_boxes4 e_sums4 p4 ⊢
    refine ⟨_, rfl, x, C, dx, _, rfl, x4, M'.cl, M'.gives, (by show 5 < 1000; decide), ?_⟩
    have x5 : upd H4 x (.ins C dx (putF "gives" (.str "") [("row", .int row), ("label", .str ""), ("op", .str ""), ("boxes", .ref a_boxes), ("sums", .ref a_sums)])) x = some (.ins C dx [("row", .int row), ("label", .str ""), ("op", .str ""), ("boxes", .ref a_boxes), ("sums", .ref a_sums), ("gives", .str "")]) := upd_same
    have e_boxes5 : upd H4 x (.ins C dx (putF "gives" (.str "") [("row", .int row), ("label", .str ""), ("op", .str ""), ("boxes", .ref a_boxes), ("sums", .ref a_sums)])) a_boxes = some (.lst []) := (upd_ne n_boxes.symm).trans e_boxes4
    have e_sums5 : upd H4 x (.ins C dx (putF "gives" (.str "") [("row", .int row), ("label", .str ""), ("op", .str ""), ("boxes", .ref a_boxes), ("sums", .ref a_sums)])) a_sums = some (.lst []) := (upd_ne n_sums.symm).trans e_sums4
    have p5 : Pr x H (upd H4 x (.ins C dx (putF "gives" (.str "") [("row", .int row), ("label", .str ""), ("op", .str ""), ("boxes", .ref a_boxes), ("sums", .ref a_sums)]))) := (p4).at
    generalize upd H4 x (.ins C dx (putF "gives" (.str "") [("row", .int row), ("label", .str ""), ("op", .str ""), ("boxes", .ref a_boxes), ("sums", .ref a_sums)])) = H5 at x5 e_boxes5 e_sums5 p5 ⊢
    refine ⟨_, rfl, x, C, dx, _, rfl, x5, M'.cl, M'.amount, (by show 6 < 1000; decide), ?_⟩
    have x6 : upd H5 x (.ins C dx (putF "amount" (.int 0) [("row", .int row), ("label", .str ""), ("op", .str ""), ("boxes", .ref a_boxes), ("sums", .ref a_sums), ("gives", .str "")])) x = some (.ins C dx [("row", .int row), ("label", .str ""), ("op", .str ""), ("boxes", .ref a_boxes), ("sums", .ref a_sums), ("gives", .str ""), ("amount", .int 0)]) := upd_same
    have e_boxes6 : upd H5 x (.ins C dx (putF "amount" (.int 0) [("row", .int row), ("label", .str ""), ("op", .str ""), ("boxes", .ref a_boxes), ("sums", .ref a_sums), ("gives", .str "")])) a_boxes = some (.lst []) := (upd_ne n_boxes.symm).trans e_boxes5
    have e_sums6 : upd H5 x (.ins C dx (putF "amount" (.int 0) [("row", .int row), ("label", .str ""), ("op", .str ""), ("boxes", .ref a_boxes), ("sums", .ref a_sums), ("gives", .str "")])) a_sums = some (.lst []) := (upd_ne n_sums.symm).trans e_sums5
    have p6 : Pr x H (upd H5 x (.ins C dx (putF "amount" (.int 0) [("row", .int row), ("label", .str ""), ("op", .str ""), ("boxes", .ref a_boxes), ("sums", .ref a_sums), ("gives", .str "")]))) := (p5).at
    generalize upd H5 x (.ins C dx (putF "amount" (.int 0) [("row", .int row), ("label", .str ""), ("op", .str ""), ("boxes", .ref a_boxes), ("sums", .ref a_sums), ("gives", .str "")])) = H6 at x6 e_boxes6 e_sums6 p6 ⊢
    refine ⟨_, rfl, x, C, dx, _, rfl, x6, M'.cl, M'.place, (by show 7 < 1000; decide), ?_⟩
    have x7 : upd H6 x (.ins C dx (putF "place" (.int 0) [("row", .int row), ("label", .str ""), ("op", .str ""), ("boxes", .ref a_boxes), ("sums", .ref a_sums), ("gives", .str ""), ("amount", .int 0)])) x = some (.ins C dx [("row", .int row), ("label", .str ""), ("op", .str ""), ("boxes", .ref a_boxes), ("sums", .ref a_sums), ("gives", .str ""), ("amount", .int 0), ("place", .int 0)]) := upd_same
    have e_boxes7 : upd H6 x (.ins C dx (putF "place" (.int 0) [("row", .int row), ("label", .str ""), ("op", .str ""), ("boxes", .ref a_boxes), ("sums", .ref a_sums), ("gives", .str ""), ("amount", .int 0)])) a_boxes = some (.lst []) := (upd_ne n_boxes.symm).trans e_boxes6
    have e_sums7 : upd H6 x (.ins C dx (putF "place" (.int 0) [("row", .int row), ("label", .str ""), ("op", .str ""), ("boxes", .ref a_boxes), ("sums", .ref a_sums), ("gives", .str ""), ("amount", .int 0)])) a_sums = some (.lst []) := (upd_ne n_sums.symm).trans e_sums6
    have p7 : Pr x H (upd H6 x (.ins C dx (putF "place" (.int 0) [("row", .int row), ("label", .str ""), ("op", .str ""), ("boxes", .ref a_boxes), ("sums", .ref a_sums), ("gives", .str ""), ("amount", .int 0)]))) := (p6).at
    generalize upd H6 x (.ins C dx (putF "place" (.int 0) [("row", .int row), ("label", .str ""), ("op", .str ""), ("boxes", .ref a_boxes), ("sums", .ref a_sums), ("gives", .str ""), ("amount", .int 0)])) = H7 at x7 e_boxes7 e_sums7 p7 ⊢
    refine ⟨_, rfl, x, C, dx, _, rfl, x7, M'.cl, M'.long, (by show 8 < 1000; decide), ?_⟩
    have x8 : upd H7 x (.ins C dx (putF "long" (.bl false) [("row", .int row), ("label", .str ""), ("op", .str ""), ("boxes", .ref a_boxes), ("sums", .ref a_sums), ("gives", .str ""), ("amount", .int 0), ("place", .int 0)])) x = some (.ins C dx [("row", .int row), ("label", .str ""), ("op", .str ""), ("boxes", .ref a_boxes), ("sums", .ref a_sums), ("gives", .str ""), ("amount", .int 0), ("place", .int 0), ("long", .bl false)]) := upd_same
    have e_boxes8 : upd H7 x (.ins C dx (putF "long" (.bl false) [("row", .int row), ("label", .str ""), ("op", .str ""), ("boxes", .ref a_boxes), ("sums", .ref a_sums), ("gives", .str ""), ("amount", .int 0), ("place", .int 0)])) a_boxes = some (.lst []) := (upd_ne n_boxes.symm).trans e_boxes7
    have e_sums8 : upd H7 x (.ins C dx (putF "long" (.bl false) [("row", .int row), ("label", .str ""), ("op", .str ""), ("boxes", .ref a_boxes), ("sums", .ref a_sums), ("gives", .str ""), ("amount", .int 0), ("place", .int 0)])) a_sums = some (.lst []) := (upd_ne n_sums.symm).trans e_sums7
    have p8 : Pr x H (upd H7 x (.ins C dx (putF "long" (.bl false) [("row", .int row), ("label", .str ""), ("op", .str ""), ("boxes", .ref a_boxes), ("sums", .ref a_sums), ("gives", .str ""), ("amount", .int 0), ("place", .int 0)]))) := (p7).at
    generalize upd H7 x (.ins C dx (putF "long" (.bl false) [("row", .int row), ("label", .str ""), ("op", .str ""), ("boxes", .ref a_boxes), ("sums", .ref a_sums), ("gives", .str ""), ("amount", .int 0), ("place", .int 0)])) = H8 at x8 e_boxes8 e_sums8 p8 ⊢
    refine ⟨Nat.zero_le _, fun a_words h_words => ⟨_, rfl, x, C, dx, _, rfl, (upd_ne (ne_of_none x8 h_words)).trans x8, M'.cl, M'.words, (by show 9 < 1000; decide), ?_⟩⟩
    have n_words : x ≠ a_words := ne_of_none x8 h_words
    have n_boxes_words : a_boxes ≠ a_words := ne_of_none e_boxes8 h_words
    have n_sums_words : a_sums ≠ a_words := ne_of_none e_sums8 h_words
    have z_words : H a_words = none := Pr.fresh p8 x8 h_words
    have x9 : upd (upd H8 a_words (.tup [])) x (.ins C dx (putF "words" (.ref a_words) [("row", .int row), ("label", .str ""), ("op", .str ""), ("boxes", .ref a_boxes), ("sums", .ref a_sums), ("gives", .str ""), ("amount", .int 0), ("place", .int 0), ("long", .bl false)])) x = some (.ins C dx [("row", .int row), ("label", .str ""), ("op", .str ""), ("boxes", .ref a_boxes), ("sums", .ref a_sums), ("gives", .str ""), ("amount", .int 0), ("place", .int 0), ("long", .bl false), ("words", .ref a_words)]) := upd_same
    have e_boxes9 : upd (upd H8 a_words (.tup [])) x (.ins C dx (putF "words" (.ref a_words) [("row", .int row), ("label", .str ""), ("op", .str ""), ("boxes", .ref a_boxes), ("sums", .ref a_sums), ("gives", .str ""), ("amount", .int 0), ("place", .int 0), ("long", .bl false)])) a_boxes = some (.lst []) := (upd_ne n_boxes.symm).trans ((upd_ne n_boxes_words).trans e_boxes8)
    have e_sums9 : upd (upd H8 a_words (.tup [])) x (.ins C dx (putF "words" (.ref a_words) [("row", .int row), ("label", .str ""), ("op", .str ""), ("boxes", .ref a_boxes), ("sums", .ref a_sums), ("gives", .str ""), ("amount", .int 0), ("place", .int 0), ("long", .bl false)])) a_sums = some (.lst []) := (upd_ne n_sums.symm).trans ((upd_ne n_sums_words).trans e_sums8)
    have e_words9 : upd (upd H8 a_words (.tup [])) x (.ins C dx (putF "words" (.ref a_words) [("row", .int row), ("label", .str ""), ("op", .str ""), ("boxes", .ref a_boxes), ("sums", .ref a_sums), ("gives", .str ""), ("amount", .int 0), ("place", .int 0), ("long", .bl false)])) a_words = some (.tup []) := (upd_ne n_words.symm).trans upd_same
    have p9 : Pr x H (upd (upd H8 a_words (.tup [])) x (.ins C dx (putF "words" (.ref a_words) [("row", .int row), ("label", .str ""), ("op", .str ""), ("boxes", .ref a_boxes), ("sums", .ref a_sums), ("gives", .str ""), ("amount", .int 0), ("place", .int 0), ("long", .bl false)]))) := (Pr.add p8 h_words).at
    generalize upd (upd H8 a_words (.tup [])) x (.ins C dx (putF "words" (.ref a_words) [("row", .int row), ("label", .str ""), ("op", .str ""), ("boxes", .ref a_boxes), ("sums", .ref a_sums), ("gives", .str ""), ("amount", .int 0), ("place", .int 0), ("long", .bl false)])) = H9 at x9 e_boxes9 e_sums9 e_words9 p9 ⊢
    exact k _ a_boxes a_sums a_words x9 e_boxes9 e_sums9 e_words9 z_boxes z_sums z_words n_boxes_sums p9
def spInitMc (C : Addr) : Sp := fun vs H Q _ => ∃ (x dx : Addr) (ahead : Int) (ps : Addr), vs = [.ref x, .int ahead, .ref ps] ∧ H x = some (.ins C dx []) ∧ ∀ (H' : Hp) (r : Addr), H' x = some (.ins C dx [("ahead", .int ahead), ("params", .ref ps), ("rows", .ref r)]) → H' r = some (.lst []) → H r = none → Pr x H H' → Q .non H'
theorem ok_Mcinit {f : Addr} {fd : FuncData} (F : FnP K "__init__" "Macro.__init__" sD_Macroinit f fd) (M' : TxtMc K C) : FnOk P w K mg base L2.CX0 1 f fd ["self", "ahead", "params"] (spInitMc C) := by
  refine fnok_of F sc_Macroinit (fun vs H Q E h => ?_) (fun cdv Ar outer s H vs Q E hr h => ?_)
  · obtain ⟨x, dx, ahead, ps, rfl, _⟩ := h
    rfl
  · obtain ⟨x, dx, ahead, ps, rfl, hx, k⟩ := h
    refine ⟨_, (pss_cons (ps_fld (pv 0) (pv 1) rfl)
  (pss_cons (ps_fld (pv 0) (pv 2) rfl)
  (pss_one (ps_fld (pv 0) (pe_lst pa_nil) rfl)))), ?_⟩
    refine ⟨_, rfl, _, rfl, x, C, dx, _, rfl, hx, M'.cl, M'.ahead, (by show 0 < 1000; decide), ?_⟩
    have x0 : upd H x (.ins C dx (putF "ahead" (.int ahead) [])) x = some (.ins C dx [("ahead", .int ahead)]) := upd_same
    have p0 : Pr x H (upd H x (.ins C dx (putF "ahead" (.int ahead) []))) := ((Pr.refl x H)).at
    generalize upd H x (.ins C dx (putF "ahead" (.int ahead) [])) = H0 at x0 p0 ⊢
    refine ⟨_, rfl, _, rfl, x, C, dx, _, rfl, x0, M'.cl, M'.params, (by show 1 < 1000; decide), ?_⟩
    have x1 : upd H0 x (.ins C dx (putF "params" (.ref ps) [("ahead", .int ahead)])) x = some (.ins C dx [("ahead", .int ahead), ("params", .ref ps)]) := upd_same
    have p1 : Pr x H (upd H0 x (.ins C dx (putF "params" (.ref ps) [("ahead", .int ahead)]))) := (p0).at
    generalize upd H0 x (.ins C dx (putF "params" (.ref ps) [("ahead", .int ahead)])) = H1 at x1 p1 ⊢
    refine ⟨Nat.zero_le _, fun a_rows h_rows => ⟨_, rfl, x, C, dx, _, rfl, (upd_ne (ne_of_none x1 h_rows)).trans x1, M'.cl, M'.rows, (by show 2 < 1000; decide), ?_⟩⟩
    have n_rows : x ≠ a_rows := ne_of_none x1 h_rows
    have z_rows : H a_rows = none := Pr.fresh p1 x1 h_rows
    have x2 : upd (upd H1 a_rows (.lst [])) x (.ins C dx (putF "rows" (.ref a_rows) [("ahead", .int ahead), ("params", .ref ps)])) x = some (.ins C dx [("ahead", .int ahead), ("params", .ref ps), ("rows", .ref a_rows)]) := upd_same
    have e_rows2 : upd (upd H1 a_rows (.lst [])) x (.ins C dx (putF "rows" (.ref a_rows) [("ahead", .int ahead), ("params", .ref ps)])) a_rows = some (.lst []) := (upd_ne n_rows.symm).trans upd_same
    have p2 : Pr x H (upd (upd H1 a_rows (.lst [])) x (.ins C dx (putF "rows" (.ref a_rows) [("ahead", .int ahead), ("params", .ref ps)]))) := (Pr.add p1 h_rows).at
    generalize upd (upd H1 a_rows (.lst [])) x (.ins C dx (putF "rows" (.ref a_rows) [("ahead", .int ahead), ("params", .ref ps)])) = H2 at x2 e_rows2 p2 ⊢
    exact k _ a_rows x2 e_rows2 z_rows p2
def spInitRd (C : Addr) : Sp := fun vs H Q _ => ∃ (x dx : Addr), vs = [.ref x] ∧ H x = some (.ins C dx []) ∧ ∀ (H' : Hp) (m r : Addr), H' x = some (.ins C dx [("macros", .ref m), ("begun", .non), ("head", .int 0), ("calls", .int 0), ("rows", .ref r)]) → H' m = some (.dK []) → H' r = some (.lst []) → H m = none → H r = none → Pr x H H' → Q .non H'
theorem ok_Rdinit {f : Addr} {fd : FuncData} (F : FnP K "__init__" "Reader.__init__" sD_Readerinit f fd) (M' : TxtRd K C) : FnOk P w K mg base L2.CX0 1 f fd ["self"] (spInitRd C) := by
  refine fnok_of F sc_Readerinit (fun vs H Q E h => ?_) (fun cdv Ar outer s H vs Q E hr h => ?_)
  · obtain ⟨x, dx, rfl, _⟩ := h
    rfl
  · obtain ⟨x, dx, rfl, hx, k⟩ := h
    refine ⟨_, (pss_cons (ps_fld (pv 0) pe_dnewK rfl)
  (pss_cons (ps_fld (pv 0) pe_non rfl)
  (pss_cons (ps_fld (pv 0) pe_int rfl)
  (pss_cons (ps_fld (pv 0) pe_int rfl)
  (pss_one (ps_fld (pv 0) (pe_lst pa_nil) rfl)))))), ?_⟩
    refine fun a_macros h_macros => ⟨_, rfl, x, C, dx, _, rfl, (upd_ne (ne_of_none hx h_macros)).trans hx, M'.cl, M'.macros, (by show 0 < 1000; decide), ?_⟩
    have n_macros : x ≠ a_macros := ne_of_none hx h_macros
    have z_macros : H a_macros = none := Pr.fresh (Pr.refl x H) hx h_macros
    have x0 : upd (upd H a_macros (.dK [])) x (.ins C dx (putF "macros" (.ref a_macros) [])) x = some (.ins C dx [("macros", .ref a_macros)]) := upd_same
    have e_macros0 : upd (upd H a_macros (.dK [])) x (.ins C dx (putF "macros" (.ref a_macros) [])) a_macros = some (.dK []) := (upd_ne n_macros.symm).trans upd_same
    have p0 : Pr x H (upd (upd H a_macros (.dK [])) x (.ins C dx (putF "macros" (.ref a_macros) []))) := (Pr.add (Pr.refl x H) h_macros).at
    generalize upd (upd H a_macros (.dK [])) x (.ins C dx (putF "macros" (.ref a_macros) [])) = H0 at x0 e_macros0 p0 ⊢
    refine ⟨_, rfl, x, C, dx, _, rfl, x0, M'.cl, M'.begun, (by show 1 < 1000; decide), ?_⟩
    have x1 : upd H0 x (.ins C dx (putF "begun" (.non) [("macros", .ref a_macros)])) x = some (.ins C dx [("macros", .ref a_macros), ("begun", .non)]) := upd_same
    have e_macros1 : upd H0 x (.ins C dx (putF "begun" (.non) [("macros", .ref a_macros)])) a_macros = some (.dK []) := (upd_ne n_macros.symm).trans e_macros0
    have p1 : Pr x H (upd H0 x (.ins C dx (putF "begun" (.non) [("macros", .ref a_macros)]))) := (p0).at
    generalize upd H0 x (.ins C dx (putF "begun" (.non) [("macros", .ref a_macros)])) = H1 at x1 e_macros1 p1 ⊢
    refine ⟨_, rfl, x, C, dx, _, rfl, x1, M'.cl, M'.head, (by show 2 < 1000; decide), ?_⟩
    have x2 : upd H1 x (.ins C dx (putF "head" (.int 0) [("macros", .ref a_macros), ("begun", .non)])) x = some (.ins C dx [("macros", .ref a_macros), ("begun", .non), ("head", .int 0)]) := upd_same
    have e_macros2 : upd H1 x (.ins C dx (putF "head" (.int 0) [("macros", .ref a_macros), ("begun", .non)])) a_macros = some (.dK []) := (upd_ne n_macros.symm).trans e_macros1
    have p2 : Pr x H (upd H1 x (.ins C dx (putF "head" (.int 0) [("macros", .ref a_macros), ("begun", .non)]))) := (p1).at
    generalize upd H1 x (.ins C dx (putF "head" (.int 0) [("macros", .ref a_macros), ("begun", .non)])) = H2 at x2 e_macros2 p2 ⊢
    refine ⟨_, rfl, x, C, dx, _, rfl, x2, M'.cl, M'.calls, (by show 3 < 1000; decide), ?_⟩
    have x3 : upd H2 x (.ins C dx (putF "calls" (.int 0) [("macros", .ref a_macros), ("begun", .non), ("head", .int 0)])) x = some (.ins C dx [("macros", .ref a_macros), ("begun", .non), ("head", .int 0), ("calls", .int 0)]) := upd_same
    have e_macros3 : upd H2 x (.ins C dx (putF "calls" (.int 0) [("macros", .ref a_macros), ("begun", .non), ("head", .int 0)])) a_macros = some (.dK []) := (upd_ne n_macros.symm).trans e_macros2
    have p3 : Pr x H (upd H2 x (.ins C dx (putF "calls" (.int 0) [("macros", .ref a_macros), ("begun", .non), ("head", .int 0)]))) := (p2).at
    generalize upd H2 x (.ins C dx (putF "calls" (.int 0) [("macros", .ref a_macros), ("begun", .non), ("head", .int 0)])) = H3 at x3 e_macros3 p3 ⊢
    refine ⟨Nat.zero_le _, fun a_rows h_rows => ⟨_, rfl, x, C, dx, _, rfl, (upd_ne (ne_of_none x3 h_rows)).trans x3, M'.cl, M'.rows, (by show 4 < 1000; decide), ?_⟩⟩
    have n_rows : x ≠ a_rows := ne_of_none x3 h_rows
    have n_macros_rows : a_macros ≠ a_rows := ne_of_none e_macros3 h_rows
    have z_rows : H a_rows = none := Pr.fresh p3 x3 h_rows
    have x4 : upd (upd H3 a_rows (.lst [])) x (.ins C dx (putF "rows" (.ref a_rows) [("macros", .ref a_macros), ("begun", .non), ("head", .int 0), ("calls", .int 0)])) x = some (.ins C dx [("macros", .ref a_macros), ("begun", .non), ("head", .int 0), ("calls", .int 0), ("rows", .ref a_rows)]) := upd_same
    have e_macros4 : upd (upd H3 a_rows (.lst [])) x (.ins C dx (putF "rows" (.ref a_rows) [("macros", .ref a_macros), ("begun", .non), ("head", .int 0), ("calls", .int 0)])) a_macros = some (.dK []) := (upd_ne n_macros.symm).trans ((upd_ne n_macros_rows).trans e_macros3)
    have e_rows4 : upd (upd H3 a_rows (.lst [])) x (.ins C dx (putF "rows" (.ref a_rows) [("macros", .ref a_macros), ("begun", .non), ("head", .int 0), ("calls", .int 0)])) a_rows = some (.lst []) := (upd_ne n_rows.symm).trans upd_same
    have p4 : Pr x H (upd (upd H3 a_rows (.lst [])) x (.ins C dx (putF "rows" (.ref a_rows) [("macros", .ref a_macros), ("begun", .non), ("head", .int 0), ("calls", .int 0)]))) := (Pr.add p3 h_rows).at
    generalize upd (upd H3 a_rows (.lst [])) x (.ins C dx (putF "rows" (.ref a_rows) [("macros", .ref a_macros), ("begun", .non), ("head", .int 0), ("calls", .int 0)])) = H4 at x4 e_macros4 e_rows4 p4 ⊢
    exact k _ a_macros a_rows x4 e_macros4 e_rows4 z_macros z_rows p4
end
end Rs
/-! reading.py: a row filled in -/
namespace Rs
open PySem PySem.Spec PyProof.Rows L2 C8
abbrev shapeKeys : List Str := ["take", "at", "room"]
abbrev shapeL : List (Str × List Int) := [("take", [1, 1]), ("at", [0, 1]), ("room", [0, 1])]
/-- how many boxes and sums stand behind an op -/
def Shape (o : Str) (nb nn : Nat) : Prop := (o, [(nb : Int), (nn : Int)]) ∈ shapeL ∨ (o ∉ shapeKeys ∧ ∃ c ∈ codes, c.1.str = o ∧ c.2.2.1 = nb ∧ c.2.2.2 = nn)
theorem cutV_take (xs : List V) (n : Nat) : cutV xs none (some (n : Int)) = xs.take n := by
  unfold cutV
  rw [HT.sIx_none, List.drop_zero, Nat.sub_zero, HT.sIx_nat]
  by_cases h : n ≤ xs.length
  · rw [Nat.min_eq_left h]
  · rw [Nat.min_eq_right (by omega), List.take_of_length_le (Nat.le_refl _), List.take_of_length_le (by omega)]
theorem cutV_drop (xs : List V) (n : Nat) : cutV xs (some (n : Int)) none = xs.drop n := by
  unfold cutV
  rw [HT.sIx_none, HT.sIx_nat]
  by_cases h : n ≤ xs.length
  · rw [Nat.min_eq_left h]
    exact List.take_of_length_le (by rw [List.length_drop]; exact Nat.le_refl _)
  · rw [Nat.min_eq_right (by omega), List.drop_eq_nil_of_le (Nat.le_refl _), List.drop_eq_nil_of_le (by omega)]
    simp
section
variable {P : Program} {w : World} {K : PySem.W.Frag} {mg : Str → Option Value} {base : Heap} {C CF : Addr}
theorem sums_snoc {H : Hp} {ts : List Addr} {Ls : List (List Pp)} {t : Addr} {L : List Pp} (h : SumsAt H ts Ls) (ht : SmAt H t L) : SumsAt H (ts ++ [t]) (Ls ++ [L]) := by
  refine ⟨by simp [h.1], fun i u f h1 h2 => ?_⟩
  by_cases hi : i < ts.length
  · rw [List.getElem?_append_left hi] at h1
    rw [List.getElem?_append_left (by rw [← h.1]; exact hi)] at h2
    exact h.2 i u f h1 h2
  · rw [List.getElem?_append_right (Nat.le_of_not_lt hi)] at h1
    rw [List.getElem?_append_right (by rw [← h.1]; exact Nat.le_of_not_lt hi), ← h.1] at h2
    cases q : i - ts.length with
    | zero =>
      rw [q] at h1 h2
      cases h1
      cases h2
      exact ht
    | succ n =>
      rw [q] at h1
      cases h1
theorem partIs_pr {H H' : Hp} {F : Fv} {a : Str} {L : List Pp} {x dx C0 : Addr} {fs : List (Str × V)} (h : PartIs H F a L) (k : Pr x H H') (hx : H x = some (.ins C0 dx fs)) : PartIs H' F a L := by
  rcases h with z | z | ⟨z1, z2, z3, z4⟩
  · exact .inl z
  · exact .inr (.inl z)
  · refine .inr (.inr ⟨z1, z2, z3, ?_⟩)
    rcases z4 with ⟨t, y1, us, g1, g2⟩ | y
    · have nn : ∀ {q : Addr} {xs : List V}, H q = some (.tup xs) → q ≠ x := fun e z => by
        rw [z, hx] at e
        cases e
      exact .inl ⟨t, y1, us, k _ _ g1 (nn g1), g2.mono fun q xs e => k _ _ e (nn e)⟩
    · exact .inr y
/-- boxes and sums of a row's words -/
structure Filled (H : Hp) (F : Fv) (ws : List Str) (nb nn : Nat) (bs : List Int) (Ps : List (List (List Pp))) : Prop where
  len : ws.length = nb + nn
  lb : bs.length = nb
  ls : Ps.length = nn
  box : ∀ (i : Nat) (z : Str) (n : Int), (ws.take nb)[i]? = some z → bs[i]? = some n → BoxIs F z n
  sum : ∀ (i : Nat) (z : Str) (L : List (List Pp)), (ws.drop nb)[i]? = some z → Ps[i]? = some L → z.length ≤ 100000 ∧ SumIs H F z L
def sumsOf (zs : List Str) (Ps : List (List (List Pp))) : List (List Pp) := List.zipWith (fun z L => sumGo (splitSum z) L) zs Ps
def spShaped (K : PySem.W.Frag) (C CF : Addr) : Sp := fun vs H Q _ => ∃ (x dx pw : Addr) (R : Rv) (A : Fd) (F : Fv) (ws : List Str) (nb nn : Nat) (bs : List Int) (Ps : List (List (List Pp))), vs = [.ref x, .ref A.x, .ref pw] ∧ H x = some (.ins C dx (rf R)) ∧ FAt CF H A F ∧ F.own.length ≤ 100000 ∧ Tabs K H ∧ H pw = some (.lst (ws.map V.str)) ∧ ws.length ≤ 100000 ∧ x ≠ A.x ∧ Shape R.op nb nn ∧ Filled H F ws nb nn bs Ps ∧
  ∀ (H' : Hp) (b s : Addr) (ts : List Addr), H' x = some (.ins C dx (rf { R with boxes := b, sums := s })) → H' b = some (.lst (bs.map V.int)) → H' s = some (.lst (ts.map V.ref)) → SumsAt H' ts (sumsOf (ws.drop nb) Ps) → H b = none → H s = none → Pr x H H' → Q .non H'
theorem ok_fill_shaped (D : DefAt K mg "fill_shaped" sD_fill_shaped) (T : Txt w K mg) (MR : TxtR K C) (c_box_of : Cal P w K mg base 2 "box_of" (spBoxOf CF) []) (c_sum_of : Cal P w K mg base 5 "sum_of" (spSumOf K CF) []) : Cal P w K mg base 6 "fill_shaped" (spShaped K C CF) [] := by
  refine cal_of D sc_fill_shaped (fun _ _ _ _ _ _ us hl => match us, hl with | [_, _, _], _ => rfl) (fun vs H Q E h => ?_) (fun cdv Ar outer s H vs Q E hr h => ?_)
  · obtain ⟨x, dx, pw, R, A, F, ws, nb, nn, bs, Ps, rfl, _⟩ := h
    rfl
  · obtain ⟨x, dx, pw, R, A, F, ws, nb, nn, bs, Ps, rfl, hx, hF, ho, hT, hw, hl, nxA, hS, hD, k⟩ := h
    refine ⟨_, (pss_cut (ps_if (pt_cmpR op_inK (pe_fld (pv 0) rfl) (pe_gR (by rfl) T.g_SHAPES) (by rfl))
   (pss_one (ps_asg (pe_ix ix_kdict (pe_gR (by rfl) T.g_SHAPES) (pe_fld (pv 0) rfl) (fun _ _ => rfl)) (pg_tup rfl (pgs_cons (pg_name (i := 3) sc_fill_shaped.nd rfl (Or.inl rfl)) (pgs_cons (pg_name (i := 4) sc_fill_shaped.nd rfl (Or.inl rfl)) pgs_nil)))))
   (pss_one (ps_if (pt_cmpR op_inK (pe_fld (pv 0) rfl) (pe_gR (by rfl) T.g_OPS) (by rfl))
   (pss_one (ps_asg (pe_ix ix_kdict (pe_gR (by rfl) T.g_OPS) (pe_fld (pv 0) rfl) (fun _ _ => rfl)) (pg_tup rfl (pgs_cons (pg_name (i := 5) sc_fill_shaped.nd rfl (Or.inl rfl)) (pgs_cons (pg_name (i := 3) sc_fill_shaped.nd rfl (Or.inl rfl)) (pgs_cons (pg_name (i := 4) sc_fill_shaped.nd rfl (Or.inl rfl)) pgs_nil))))))
   (pss_one ps_never))))
  (pss_cons (ps_if (pt_cmpR op_ne (pe_callB call_len_seq (by rfl) T.free_len (by decide +kernel) (pa_cons (pv 2) pa_nil)) (pe_op op_add (pv 3) (pv 4)) (nomark _))
   (pss_one ps_never)
   pss_nil)
  (pss_cons (ps_fld (pv 0) (pe_lc (own := [("word", 6)]) (g := gName 6) (by rfl) sc_fill_shaped.nd (pi_list (pe_slice sl_list (pv 2) po_none (po_some (pv 3)))) (blkOk_by (own := [("word", 6)]) (N := N_fill_shaped) (sc := defScope sD_fill_shaped) (by decide +kernel)) (fun _ _ _ _ _ => (pg_name (i := 6) sc_fill_shaped.nd rfl (Or.inl rfl))) (fun _ _ _ _ _ => pts_nil) (fun _ _ _ _ _ => (pe_c c_box_of hr (by decide) (by rfl) (pa_cons (pv 6) (pa_cons (pv 1) pa_nil))))) rfl)
  (pss_one (ps_fld (pv 0) (pe_lc (own := [("word", 6)]) (g := gName 6) (by rfl) sc_fill_shaped.nd (pi_list (pe_slice sl_list (pv 2) (po_some (pv 3)) po_none)) (blkOk_by (own := [("word", 6)]) (N := N_fill_shaped) (sc := defScope sD_fill_shaped) (by decide +kernel)) (fun _ _ _ _ _ => (pg_name (i := 6) sc_fill_shaped.nd rfl (Or.inl rfl))) (fun _ _ _ _ _ => pts_nil) (fun _ _ _ _ _ => (pe_c c_sum_of hr (by decide) (by rfl) (pa_cons (pv 6) (pa_cons (pv 1) pa_nil))))) rfl))))), ?_⟩
    refine ⟨fun σ' H' => H' = H ∧ ∃ x5 : Option V, σ' = [some (.ref x), some (.ref A.x), some (.ref pw), some (.int nb), some (.int nn), x5, none], ?_, ?_⟩
    · refine ⟨_, rfl, x, C, dx, rf R, _, rfl, hx, MR.cl, MR.op, rfl, R.op, _, shapeKeys, rfl, rfl, T.tab_SHAPES, _, rfl, ?_⟩
      rcases hS with hm | ⟨hn, c, hc, e1, e2, e3⟩
      · have hk : R.op ∈ shapeKeys := List.mem_map_of_mem (f := fun e : Str × List Int => e.1) hm
        rw [show (false != decide (R.op ∈ shapeKeys)) = true by rw [decide_eq_true hk] <;> rfl]
        obtain ⟨a, hd, hq⟩ := T.v_SHAPES _ hm
        exact iteT ⟨_, rfl, x, C, dx, rf R, _, rfl, hx, MR.cl, MR.op, rfl, _, _, _, rfl, rfl, hd, a, _, rfl, hq _, rfl, _, _, rfl, _, _, rfl, rfl, rfl, _, rfl⟩
      · rw [show (false != decide (R.op ∈ shapeKeys)) = false by rw [decide_eq_false hn] <;> rfl]
        refine iteF ⟨_, rfl, x, C, dx, rf R, _, rfl, hx, MR.cl, MR.op, rfl, R.op, _, opKeys, rfl, rfl, T.tab, _, rfl, ?_⟩
        have hk : R.op ∈ opKeys := by
          rw [← e1]
          exact List.mem_map_of_mem (f := fun c : Code => c.1.str) hc
        rw [show (false != decide (R.op ∈ opKeys)) = true by rw [decide_eq_true hk] <;> rfl]
        obtain ⟨a, hd, hq⟩ := T.ops c hc
        rw [e1] at hd
        rw [e2, e3] at hq
        exact iteT ⟨_, rfl, x, C, dx, rf R, _, rfl, hx, MR.cl, MR.op, rfl, _, _, _, rfl, rfl, hd, a, _, rfl, hq _, rfl, _, _, rfl, _, _, rfl, _, _, rfl, rfl, rfl, _, rfl⟩
    · rintro σ1 H1 ⟨rfl, x5, rfl⟩
      refine ⟨_, rfl, pw, _, rfl, .inl (SqL.of hw), _, rfl, _, rfl, _, _, rfl, rfl, rfl, _, rfl, ?_⟩
      rw [show (!decide (V.int ((ws.map V.str).length : Int) = V.int ((nb : Int) + (nn : Int)))) = false by rw [decide_eq_true (by rw [List.length_map, hD.len]; rfl)] <;> rfl]
      refine iteF ?_
      refine ⟨_, rfl, _, rfl, _, rfl, pw, _, rfl, SqL.of hw, fun q hq => ⟨q, rfl, ⟨_, SqL.of upd_same⟩, fun Dl hDl => ?_⟩⟩
      rw [cutV_take, ← List.map_take] at hDl ⊢
      have s1 : Same H1 (upd H1 q (.lst ((ws.take nb).map V.str))) := Same.new hq
      have hq2 : upd H1 q (.lst ((ws.take nb).map V.str)) q = some (.lst ((ws.take nb).map V.str)) := upd_same
      generalize upd H1 q (.lst ((ws.take nb).map V.str)) = H2 at s1 hq2 hDl ⊢
      have box := hD.box
      have lt : (ws.take nb).length = bs.length := by
        rw [List.length_take, hD.lb, hD.len]
        omega
      have lbl : bs.length ≤ 100000 := by
        rw [hD.lb]
        have := hD.len
        omega
      refine lc_list (K := K) (a := q) (xs := (ws.take nb).map V.str) (fun i H' => Same H2 H' ∧ H' Dl = some (.lst ((bs.take i).map V.int))) ⟨Same.new hDl, upd_same⟩ (fun i H' _ ⟨z, _⟩ => SqL.of (z _ _ hq2)) ?_ ?_
      · rintro i v H3 hv ⟨s3, h3⟩
        rw [List.getElem?_map] at hv
        cases ez : (ws.take nb)[i]? with
        | none =>
          rw [ez] at hv
          cases hv
        | some z =>
          rw [ez] at hv
          cases hv
          have hi : i < bs.length := by
            rw [← lt]
            exact (List.getElem?_eq_some_iff.mp ez).1
          have en := List.getElem?_eq_getElem hi
          refine ⟨rfl, yesS ?_⟩
          refine iteT ?_
          refine ⟨_, rfl, _, rfl, z, bs[i], A, F, rfl, hF.same (s1.trans s3), box i z _ ez en, ?_⟩
          refine ⟨_, h3, ?_, s3.putNew hDl, ?_⟩
          · rw [List.length_map, List.length_take]
            exact Nat.lt_of_le_of_lt (show min i bs.length ≤ 100000 by omega) (by decide)
          · rw [upd_same, List.take_succ, en, List.map_append] <;> rfl
      rintro H3 ⟨s3, h3⟩
      rw [List.length_map, lt, List.take_length] at h3
      have s13 := s1.trans s3
      have zD : H1 Dl = none := s1.free hDl
      have nxD : x ≠ Dl := ne_of_none hx zD
      refine ⟨_, rfl, x, C, dx, rf R, rfl, s13 _ _ hx, MR.cl, MR.boxes, (by show 10 < 1000; decide), ?_⟩
      have x4 : upd H3 x (.ins C dx (putF "boxes" (.ref Dl) (rf R))) x = some (.ins C dx (rf { R with boxes := Dl })) := upd_same
      have b4 : upd H3 x (.ins C dx (putF "boxes" (.ref Dl) (rf R))) Dl = some (.lst (bs.map V.int)) := (upd_ne nxD.symm).trans h3
      have p4 : Pr x H1 (upd H3 x (.ins C dx (putF "boxes" (.ref Dl) (rf R)))) := (Same.pr s13 x).at
      generalize upd H3 x (.ins C dx (putF "boxes" (.ref Dl) (rf R))) = H4 at x4 b4 p4 ⊢
      have nxw : pw ≠ x := fun z => by
        rw [z, hx] at hw
        cases hw
      have nFx : ∀ {H' : Hp}, Pr x H1 H' → FAt CF H' A F := fun p => ⟨p _ _ hF.x (Ne.symm nxA), p _ _ hF.b (fun z => by
        have := hF.b
        rw [z, hx] at this
        cases this), p _ _ hF.s (fun z => by
        have := hF.s
        rw [z, hx] at this
        cases this)⟩
      have hT4 : ∀ {H' : Hp}, Pr x H1 H' → Tabs K H' := fun p y hy => p _ _ (hT y hy) (fun z => by
        have := hT y hy
        rw [z, hx] at this
        cases this)
      have hPm : ∀ {H' : Hp}, Pr x H1 H' → ∀ {z : Str} {L : List (List Pp)}, SumIs H1 F z L → SumIs H' F z L := fun p z L q => ⟨q.len, fun i e Li e1 e2 => ⟨(q.each i e Li e1 e2).1, partIs_pr (q.each i e Li e1 e2).2 p hx⟩, q.few⟩
      refine ⟨_, rfl, _, rfl, _, rfl, pw, _, rfl, SqL.of (p4 _ _ hw nxw), fun q hq => ⟨q, rfl, ⟨_, SqL.of upd_same⟩, fun Dl2 hDl2 => ?_⟩⟩
      rw [cutV_drop, ← List.map_drop] at hDl2 ⊢
      have s5 : Same H4 (upd H4 q (.lst ((ws.drop nb).map V.str))) := Same.new hq
      have hq5 : upd H4 q (.lst ((ws.drop nb).map V.str)) q = some (.lst ((ws.drop nb).map V.str)) := upd_same
      generalize upd H4 q (.lst ((ws.drop nb).map V.str)) = H5 at s5 hq5 hDl2 ⊢
      have sum := hD.sum
      have ld : (ws.drop nb).length = Ps.length := by
        rw [List.length_drop, hD.ls, hD.len]
        omega
      have lpl : Ps.length ≤ 100000 := by
        rw [hD.ls]
        have := hD.len
        omega
      refine lc_list (K := K) (a := q) (xs := (ws.drop nb).map V.str) (fun i H' => Same H5 H' ∧ ∃ ts : List Addr, H' Dl2 = some (.lst (ts.map V.ref)) ∧ SumsAt H' ts ((sumsOf (ws.drop nb) Ps).take i)) ⟨Same.new hDl2, [], upd_same, rfl, fun i t L z => by cases z⟩ (fun i H' _ ⟨z, _⟩ => SqL.of (z _ _ hq5)) ?_ ?_
      · rintro i v H6 hv ⟨s6, ts, h6, hA6⟩
        rw [List.getElem?_map] at hv
        cases ez : (ws.drop nb)[i]? with
        | none =>
          rw [ez] at hv
          cases hv
        | some z =>
          rw [ez] at hv
          cases hv
          have hi : i < Ps.length := by
            rw [← ld]
            exact (List.getElem?_eq_some_iff.mp ez).1
          have en := List.getElem?_eq_getElem hi
          obtain ⟨hzl, hSu⟩ := sum i z _ ez en
          have p6 : Pr x H1 H6 := p4.trans (Same.pr (s5.trans s6) x)
          have eo : (sumsOf (ws.drop nb) Ps)[i]? = some (sumGo (splitSum z) Ps[i]) := by
            unfold sumsOf
            rw [List.getElem?_zipWith, ez, en]
          refine ⟨rfl, yesS ?_⟩
          refine iteT ?_
          refine ⟨_, rfl, _, rfl, z, Ps[i], A, F, rfl, hzl, ho, hT4 p6, nFx p6, hPm p6 hSu, fun H7 t s7 hSm => ?_⟩
          refine ⟨_, s7 _ _ h6, ?_, (s6.trans s7).putNew hDl2, ts ++ [t], ?_, ?_⟩
          · rw [List.length_map, hA6.1, List.length_take]
            have : (sumsOf (ws.drop nb) Ps).length ≤ Ps.length := by
              unfold sumsOf
              rw [List.length_zipWith]
              omega
            exact Nat.lt_of_le_of_lt (show min i (sumsOf (ws.drop nb) Ps).length ≤ 100000 by omega) (by decide)
          · rw [upd_same, List.map_append] <;> rfl
          · have h7 : ∀ (u : Addr) (L : List Pp), SmAt H7 u L → SmAt (upd H7 Dl2 (.lst (ts.map V.ref ++ [V.ref t]))) u L := fun u L ⟨us, g1, g2⟩ => by
              have l7 := s7 _ _ h6
              have nn : ∀ {q : Addr} {xs : List V}, H7 q = some (.tup xs) → q ≠ Dl2 := fun e z => by
                rw [z, l7] at e
                cases e
              exact ⟨us, (upd_ne (nn g1)).trans g1, g2.mono fun q xs e => (upd_ne (nn e)).trans e⟩
            rw [List.take_succ, eo]
            exact sums_snoc ⟨hA6.1, fun j u L e1 e2 => h7 _ _ ((hA6.2 j u L e1 e2).mono s7)⟩ (h7 _ _ hSm)
      rintro H6 ⟨s6, ts, h6, hA6⟩
      have p6 : Pr x H1 H6 := p4.trans (Same.pr (s5.trans s6) x)
      have zD2 : H4 Dl2 = none := s5.free hDl2
      have x6 := s6 _ _ (s5 _ _ x4)
      have nx2 : x ≠ Dl2 := ne_of_none x4 zD2
      have nb2 : Dl ≠ Dl2 := ne_of_none b4 zD2
      refine ⟨_, rfl, x, C, dx, _, rfl, x6, MR.cl, MR.sums, (by show 10 < 1000; decide), ?_⟩
      refine k _ Dl Dl2 ts upd_same ((upd_ne nxD.symm).trans (s6 _ _ (s5 _ _ b4))) ((upd_ne nx2.symm).trans h6) ?_ zD (p4.fresh x4 zD2) p6.at
      have lz : (sumsOf (ws.drop nb) Ps).length = ((ws.drop nb).map V.str).length := by
        unfold sumsOf
        rw [List.length_zipWith, List.length_map, ld, Nat.min_self]
      rw [← lz, List.take_length] at hA6
      refine ⟨hA6.1, fun i t L e1 e2 => ?_⟩
      obtain ⟨us, g1, g2⟩ := hA6.2 i t L e1 e2
      have nn : ∀ {q : Addr} {xs : List V}, H6 q = some (.tup xs) → q ≠ x := fun e z => by
        rw [z, x6] at e
        cases e
      exact ⟨us, (upd_ne (nn g1)).trans g1, g2.mono fun q xs e => (upd_ne (nn e)).trans e⟩
end
end Rs
/-! reading.py: fill_row -/
namespace Rs
open PySem PySem.Spec PyProof.Rows L2 C8
theorem sumIs_pr {H H' : Hp} {F : Fv} {a : Str} {Ls : List (List Pp)} {x dx C0 : Addr} {fs : List (Str × V)} (q : SumIs H F a Ls) (k : Pr x H H') (hx : H x = some (.ins C0 dx fs)) : SumIs H' F a Ls :=
  ⟨q.len, fun i e Li e1 e2 => ⟨(q.each i e Li e1 e2).1, partIs_pr (q.each i e Li e1 e2).2 k hx⟩, q.few⟩
section
variable {P : Program} {w : World} {K : PySem.W.Frag} {mg : Str → Option Value} {base : Heap} {C CF : Addr}
/-- what is handed to fill_row -/
structure FillAt (K : PySem.W.Frag) (C CF : Addr) (H : Hp) (x dx pw : Addr) (R : Rv) (A : Fd) (F : Fv) (op : Str) (ws : List Str) : Prop where
  o : H x = some (.ins C dx (rf R))
  f : FAt CF H A F
  own : F.own.length ≤ 100000
  tabs : Tabs K H
  w : H pw = some (.lst ((op :: ws).map V.str))
  len : ws.length ≤ 100000
  ne : x ≠ A.x
/-- an op with boxes and sums -/
def spFillS (K : PySem.W.Frag) (C CF : Addr) : Sp := fun vs H Q _ => ∃ (x dx pw : Addr) (R : Rv) (A : Fd) (F : Fv) (o : Str) (ws : List Str) (nb nn : Nat) (bs : List Int) (Ps : List (List (List Pp))), vs = [.ref x, .ref A.x, .ref pw] ∧ FillAt K C CF H x dx pw R A F o ws ∧ o ≠ ("word" : Str) ∧ o ≠ ("is" : Str) ∧ Shape o nb nn ∧ Filled H F ws nb nn bs Ps ∧
  ∀ (H' : Hp) (b s : Addr) (ts : List Addr), H' x = some (.ins C dx (rf { R with op := o, boxes := b, sums := s })) → H' b = some (.lst (bs.map V.int)) → H' s = some (.lst (ts.map V.ref)) → SumsAt H' ts (sumsOf (ws.drop nb) Ps) → H b = none → H s = none → Pr x H H' → Q .non H'
/-- is -/
def spFillI (K : PySem.W.Frag) (C CF : Addr) : Sp := fun vs H Q _ => ∃ (x dx pw : Addr) (R : Rv) (A : Fd) (F : Fv) (a n z : Str) (L : List (List Pp)), vs = [.ref x, .ref A.x, .ref pw] ∧ FillAt K C CF H x dx pw R A F "is" [a, z] ∧ a.length ≤ 100000 ∧ NameIs F a n ∧ z.length ≤ 100000 ∧ SumIs H F z L ∧
  ∀ (H' : Hp) (s t : Addr), H' x = some (.ins C dx (rf { R with op := "is", gives := n, sums := s })) → H' s = some (.lst [.ref t]) → SmAt H' t (sumGo (splitSum z) L) → H s = none → Pr x H H' → Q .non H'
/-- word -/
def spFillW (K : PySem.W.Frag) (C CF : Addr) : Sp := fun vs H Q _ => ∃ (x dx pw : Addr) (R : Rv) (A : Fd) (F : Fv) (ws : List Str) (Ps : List (List (List Pp))), vs = [.ref x, .ref A.x, .ref pw] ∧ FillAt K C CF H x dx pw R A F "word" ws ∧ 1 ≤ ws.length ∧ ws.length ≤ 8 ∧ Filled H F ws 0 ws.length [] Ps ∧
  ∀ (H' : Hp) (s : Addr) (ts : List Addr), H' x = some (.ins C dx (rf { R with op := "word", sums := s })) → H' s = some (.lst (ts.map V.ref)) → SumsAt H' ts (sumsOf ws Ps) → H s = none → Pr x H H' → Q .non H'
theorem ok_fill_row (D : DefAt K mg "fill_row" sD_fill_row) (T : Txt w K mg) (MR : TxtR K C) (c_name_of : Cal P w K mg base 3 "name_of" (spNameOf K CF) []) (c_sum_of : Cal P w K mg base 5 "sum_of" (spSumOf K CF) []) (c_fill_shaped : Cal P w K mg base 6 "fill_shaped" (spShaped K C CF) []) :
    Cal P w K mg base 7 "fill_row" (fun vs H Q E => spFillS K C CF vs H Q E ∨ spFillI K C CF vs H Q E ∨ spFillW K C CF vs H Q E) [] := by
  refine cal_of D sc_fill_row (fun _ _ _ _ _ _ us hl => match us, hl with | [_, _, _], _ => rfl) (fun vs H Q E h => ?_) (fun cdv Ar outer s H vs Q E hr h => ?_)
  · rcases h with ⟨x, dx, pw, R, A, F, o, ws, nb, nn, bs, Ps, rfl, _⟩ | ⟨x, dx, pw, R, A, F, a, n, z, L, rfl, _⟩ | ⟨x, dx, pw, R, A, F, ws, Ps, rfl, _⟩ <;> rfl
  · refine ⟨_, (pss_cons (ps_fld (pv 0) (pe_ix ix_list (pv 2) pe_int (fun _ _ => rfl)) rfl)
  (pss_one (ps_if (pt_cmpR op_eq (pe_fld (pv 0) rfl) pe_str (nomark _))
   (pss_cons (ps_if (pt_not (pt_chain op_le op_le pe_int (pe_op op_sub (pe_callB call_len_seq (by rfl) T.free_len (by decide +kernel) (pa_cons (pv 2) pa_nil)) pe_int) (pe_gI (by rfl) T.g_WORD_SUMS_MOST)))
   (pss_one ps_never)
   pss_nil)
  (pss_one (ps_fld (pv 0) (pe_lc (own := [("word", 3)]) (g := gName 3) (by rfl) sc_fill_row.nd (pi_list (pe_slice sl_list (pv 2) (po_some pe_int) po_none)) (blkOk_by (own := [("word", 3)]) (N := N_fill_row) (sc := defScope sD_fill_row) (by decide +kernel)) (fun _ _ _ _ _ => (pg_name (i := 3) sc_fill_row.nd rfl (Or.inl rfl))) (fun _ _ _ _ _ => pts_nil) (fun _ _ _ _ _ => (pe_c c_sum_of hr (by decide) (by rfl) (pa_cons (pv 3) (pa_cons (pv 1) pa_nil))))) rfl)))
   (pss_one (ps_if (pt_cmpR op_eq (pe_fld (pv 0) rfl) pe_str (nomark _))
   (pss_cons (ps_if (pt_cmpR op_ne (pe_callB call_len_seq (by rfl) T.free_len (by decide +kernel) (pa_cons (pv 2) pa_nil)) pe_int (nomark _))
   (pss_one ps_never)
   pss_nil)
  (pss_cons (ps_fld (pv 0) (pe_c c_name_of hr (by decide) (by rfl) (pa_cons (pe_ix ix_list (pv 2) pe_int (fun _ _ => rfl)) (pa_cons (pv 1) pa_nil))) rfl)
  (pss_one (ps_fld (pv 0) (pe_lst (pa_cons (pe_c c_sum_of hr (by decide) (by rfl) (pa_cons (pe_ix ix_list (pv 2) pe_int (fun _ _ => rfl)) (pa_cons (pv 1) pa_nil))) pa_nil)) rfl))))
   (pss_one (ps_expr (pe_c c_fill_shaped hr (by decide) (by rfl) (pa_cons (pv 0) (pa_cons (pv 1) (pa_cons (pe_slice sl_list (pv 2) (po_some pe_int) po_none) pa_nil))))))))))), ?_⟩
    have pre : ∀ {x dx pw : Addr} {R : Rv} {A : Fd} {F : Fv} {o : Str} {ws : List Str}, FillAt K C CF H x dx pw R A F o ws → FillAt K C CF (upd H x (.ins C dx (putF "op" (.str o) (rf R)))) x dx pw { R with op := o } A F o ws ∧ Pr x H (upd H x (.ins C dx (putF "op" (.str o) (rf R)))) := fun {x dx pw R A F o ws} h => by
      have nn : ∀ {q : Addr} {u : HO}, H q = some u → (∀ C' dx' fs, u ≠ .ins C' dx' fs) → q ≠ x := fun e n z => by
        rw [z, h.o] at e
        exact n _ _ _ (Option.some.inj e).symm
      refine ⟨⟨upd_same, ⟨(upd_ne h.ne.symm).trans h.f.x, (upd_ne (nn h.f.b (fun _ _ _ z => by cases z))).trans h.f.b, (upd_ne (nn h.f.s (fun _ _ _ z => by cases z))).trans h.f.s⟩, h.own, fun y hy => (upd_ne (nn (h.tabs y hy) (fun _ _ _ z => by cases z))).trans (h.tabs y hy), (upd_ne (nn h.w (fun _ _ _ z => by cases z))).trans h.w, h.len, h.ne⟩, Pr.at (fun q o e _ => e)⟩
    rcases h with ⟨x, dx, pw, R, A, F, o, ws, nb, nn, bs, Ps, rfl, hA, n1, n2, hS, hD, k⟩ | ⟨x, dx, pw, R, A, F, a, n, z, L, rfl, hA, hza, hN, hzz, hSu, k⟩ | ⟨x, dx, pw, R, A, F, ws, Ps, rfl, hA, l1, l8, hD, k⟩
    · refine ⟨_, rfl, pw, _, _, _, rfl, rfl, SqL.of hA.w, atI_nat (j := 0) rfl, _, rfl, x, C, dx, rf R, rfl, hA.o, MR.cl, MR.op, (by show 10 < 1000; decide), ?_⟩
      obtain ⟨hB, p1⟩ := pre hA
      have hx0 := hA.o
      generalize upd H x (.ins C dx (putF "op" (.str o) (rf R))) = H1 at hB p1 ⊢
      refine ⟨_, rfl, x, C, dx, _, _, rfl, hB.o, MR.cl, MR.op, rfl, rfl, _, rfl, ?_⟩
      rw [decide_eq_false (fun z => n1 (V.str.inj z))]
      refine iteF ⟨_, rfl, x, C, dx, _, _, rfl, hB.o, MR.cl, MR.op, rfl, rfl, _, rfl, ?_⟩
      rw [decide_eq_false (fun z => n2 (V.str.inj z))]
      refine iteF ?_
      refine ⟨_, rfl, _, rfl, _, rfl, _, rfl, pw, _, rfl, SqL.of hB.w, fun q hq => ?_⟩
      rw [show cutV ((o :: ws).map V.str) (some 1) none = ws.map V.str from cutV_drop _ 1]
      have s2 : Same H1 (upd H1 q (.lst (ws.map V.str))) := Same.new hq
      have w2 : upd H1 q (.lst (ws.map V.str)) q = some (.lst (ws.map V.str)) := upd_same
      have p2 : Pr x H (upd H1 q (.lst (ws.map V.str))) := p1.add hq
      generalize upd H1 q (.lst (ws.map V.str)) = H2 at s2 w2 p2 ⊢
      have x2 := s2 _ _ hB.o
      refine ⟨x, dx, q, { R with op := o }, A, F, ws, nb, nn, bs, Ps, rfl, x2, hB.f.same s2, hB.own, hB.tabs.same s2, w2, hB.len, hB.ne, hS, ⟨hD.len, hD.lb, hD.ls, hD.box, fun i z L e1 e2 => ⟨(hD.sum i z L e1 e2).1, sumIs_pr (hD.sum i z L e1 e2).2 p2 hx0⟩⟩, fun H' b s ts g1 g2 g3 g4 g5 g6 g7 => ?_⟩
      exact k H' b s ts g1 g2 g3 g4 (p2.fresh x2 g5) (p2.fresh x2 g6) (p2.trans g7)
    · refine ⟨_, rfl, pw, _, _, _, rfl, rfl, SqL.of hA.w, atI_nat (j := 0) rfl, _, rfl, x, C, dx, rf R, rfl, hA.o, MR.cl, MR.op, (by show 10 < 1000; decide), ?_⟩
      obtain ⟨hB, p1⟩ := pre hA
      have hx0 := hA.o
      generalize upd H x (.ins C dx (putF "op" (.str "is") (rf R))) = H1 at hB p1 ⊢
      refine ⟨_, rfl, x, C, dx, _, _, rfl, hB.o, MR.cl, MR.op, rfl, rfl, _, rfl, ?_⟩
      rw [show decide (V.str ({ R with op := ("is" : Str) } : Rv).op = V.str "word") = false from decide_eq_false (fun z => absurd (show ("is" : Str) = "word" from V.str.inj z) (by decide))]
      refine iteF ⟨_, rfl, x, C, dx, _, _, rfl, hB.o, MR.cl, MR.op, rfl, rfl, _, rfl, ?_⟩
      rw [decide_eq_true rfl]
      refine iteT ?_
      refine ⟨_, rfl, pw, _, rfl, .inl (SqL.of hB.w), rfl, _, rfl, ?_⟩
      refine iteF ?_
      refine ⟨_, rfl, pw, _, _, _, rfl, rfl, SqL.of hB.w, atI_nat (j := 1) rfl, _, rfl, a, n, A, F, rfl, hza, hB.own, hB.tabs, hB.f, hN, _, rfl, x, C, dx, _, rfl, hB.o, MR.cl, MR.gives, (by show 10 < 1000; decide), ?_⟩
      have nn : ∀ {q : Addr} {u : HO}, H1 q = some u → (∀ C' dx' fs, u ≠ .ins C' dx' fs) → q ≠ x := fun e n z => by
        rw [z, hB.o] at e
        exact n _ _ _ (Option.some.inj e).symm
      have x2 : upd H1 x (.ins C dx (putF "gives" (.str n) (rf { R with op := "is" }))) x = some (.ins C dx (rf { R with op := "is", gives := n })) := upd_same
      have q2 : Pr x H1 (upd H1 x (.ins C dx (putF "gives" (.str n) (rf { R with op := "is" })))) := Pr.at (fun q o e _ => e)
      generalize upd H1 x (.ins C dx (putF "gives" (.str n) (rf { R with op := "is" }))) = H2 at x2 q2 ⊢
      have p2 := p1.trans q2
      have w2 := q2 _ _ hB.w (nn hB.w (fun _ _ _ z => by cases z))
      have f2 : FAt CF H2 A F := ⟨q2 _ _ hB.f.x hB.ne.symm, q2 _ _ hB.f.b (nn hB.f.b (fun _ _ _ z => by cases z)), q2 _ _ hB.f.s (nn hB.f.s (fun _ _ _ z => by cases z))⟩
      have t2 : Tabs K H2 := fun y hy => q2 _ _ (hB.tabs y hy) (nn (hB.tabs y hy) (fun _ _ _ z => by cases z))
      refine ⟨_, rfl, pw, _, _, _, rfl, rfl, SqL.of w2, atI_nat (j := 2) rfl, _, rfl, z, L, A, F, rfl, hzz, hB.own, t2, f2, sumIs_pr hSu p2 hx0, fun H3 t s3 hSm => ⟨(by show 1 ≤ sizeLine; decide), fun l hl => ?_⟩⟩
      have x3 := s3 _ _ x2
      have nxl : x ≠ l := ne_of_none x3 hl
      refine ⟨_, rfl, x, C, dx, _, rfl, (upd_ne nxl).trans x3, MR.cl, MR.sums, (by show 10 < 1000; decide), ?_⟩
      refine k _ l t upd_same ((upd_ne nxl.symm).trans upd_same) ?_ (p2.fresh x2 (s3.free hl)) (((p2.trans (Same.pr s3 x)).add hl).at)
      obtain ⟨us, g1, g2⟩ := hSm
      have n3 : ∀ {q : Addr} {xs : List V}, H3 q = some (.tup xs) → q ≠ x ∧ q ≠ l := fun e => ⟨(fun z => by
        rw [z, x3] at e
        cases e), ne_of_none e hl⟩
      exact ⟨us, (upd_ne (n3 g1).1).trans ((upd_ne (n3 g1).2).trans g1), g2.mono fun q xs e => (upd_ne (n3 e).1).trans ((upd_ne (n3 e).2).trans e)⟩
    · refine ⟨_, rfl, pw, _, _, _, rfl, rfl, SqL.of hA.w, atI_nat (j := 0) rfl, _, rfl, x, C, dx, rf R, rfl, hA.o, MR.cl, MR.op, (by show 10 < 1000; decide), ?_⟩
      obtain ⟨hB, p1⟩ := pre hA
      have hx0 := hA.o
      generalize upd H x (.ins C dx (putF "op" (.str "word") (rf R))) = H1 at hB p1 ⊢
      refine ⟨_, rfl, x, C, dx, _, _, rfl, hB.o, MR.cl, MR.op, rfl, rfl, _, rfl, ?_⟩
      rw [decide_eq_true rfl]
      refine iteT ?_
      refine ⟨_, rfl, pw, _, rfl, .inl (SqL.of hB.w), _, _, rfl, rfl, _, _, rfl, rfl, _, rfl, ?_⟩
      have ln : (((("word" : Str) :: ws).map V.str).length : Int) - 1 = (ws.length : Int) := by
        rw [List.length_map, List.length_cons]
        omega
      rw [decide_eq_true (show (1 : Int) ≤ (((("word" : Str) :: ws).map V.str).length : Int) - 1 by rw [ln]; omega)]
      refine iteT ⟨_, _, rfl, rfl, _, rfl, ?_⟩
      rw [decide_eq_true (show (((("word" : Str) :: ws).map V.str).length : Int) - 1 ≤ 8 by rw [ln]; omega)]
      refine iteF ?_
      have nFx : ∀ {H' : Hp}, Pr x H1 H' → FAt CF H' A F := fun p => ⟨p _ _ hB.f.x (Ne.symm hB.ne), p _ _ hB.f.b (fun z => by
        have := hB.f.b
        rw [z, hB.o] at this
        cases this), p _ _ hB.f.s (fun z => by
        have := hB.f.s
        rw [z, hB.o] at this
        cases this)⟩
      have hT4 : ∀ {H' : Hp}, Pr x H1 H' → Tabs K H' := fun p y hy => p _ _ (hB.tabs y hy) (fun z => by
        have := hB.tabs y hy
        rw [z, hB.o] at this
        cases this)
      refine ⟨_, rfl, _, rfl, pw, _, rfl, SqL.of hB.w, fun q hq => ⟨q, rfl, ⟨_, SqL.of upd_same⟩, fun Dl2 hDl2 => ?_⟩⟩
      rw [show cutV ((("word" : Str) :: ws).map V.str) (some 1) none = ws.map V.str from cutV_drop _ 1] at hDl2 ⊢
      have s5 : Same H1 (upd H1 q (.lst (ws.map V.str))) := Same.new hq
      have hq5 : upd H1 q (.lst (ws.map V.str)) q = some (.lst (ws.map V.str)) := upd_same
      generalize upd H1 q (.lst (ws.map V.str)) = H5 at s5 hq5 hDl2 ⊢
      have sum := hD.sum
      rw [List.drop_zero] at sum
      have ld : ws.length = Ps.length := hD.ls.symm
      refine lc_list (K := K) (a := q) (xs := ws.map V.str) (fun i H' => Same H5 H' ∧ ∃ ts : List Addr, H' Dl2 = some (.lst (ts.map V.ref)) ∧ SumsAt H' ts ((sumsOf ws Ps).take i)) ⟨Same.new hDl2, [], upd_same, rfl, fun i t L z => by cases z⟩ (fun i H' _ ⟨z, _⟩ => SqL.of (z _ _ hq5)) ?_ ?_
      · rintro i v H6 hv ⟨s6, ts, h6, hA6⟩
        rw [List.getElem?_map] at hv
        cases ez : ws[i]? with
        | none =>
          rw [ez] at hv
          cases hv
        | some z =>
          rw [ez] at hv
          cases hv
          have hi : i < Ps.length := by
            rw [← ld]
            exact (List.getElem?_eq_some_iff.mp ez).1
          have en := List.getElem?_eq_getElem hi
          obtain ⟨hzl, hSu⟩ := sum i z _ ez en
          have q6 : Pr x H1 H6 := Same.pr (s5.trans s6) x
          have eo : (sumsOf ws Ps)[i]? = some (sumGo (splitSum z) Ps[i]) := by
            unfold sumsOf
            rw [List.getElem?_zipWith, ez, en]
          refine ⟨rfl, yesS ?_⟩
          refine iteT ?_
          refine ⟨_, rfl, _, rfl, z, Ps[i], A, F, rfl, hzl, hB.own, hT4 q6, nFx q6, sumIs_pr hSu (p1.trans q6) hx0, fun H7 t s7 hSm => ?_⟩
          refine ⟨_, s7 _ _ h6, ?_, (s6.trans s7).putNew hDl2, ts ++ [t], ?_, ?_⟩
          · rw [List.length_map, hA6.1, List.length_take]
            have : (sumsOf ws Ps).length ≤ Ps.length := by
              unfold sumsOf
              rw [List.length_zipWith]
              omega
            exact Nat.lt_of_le_of_lt (show min i (sumsOf ws Ps).length ≤ 100000 by omega) (by decide)
          · rw [upd_same, List.map_append] <;> rfl
          · have h7 : ∀ (u : Addr) (L : List Pp), SmAt H7 u L → SmAt (upd H7 Dl2 (.lst (ts.map V.ref ++ [V.ref t]))) u L := fun u L ⟨us, g1, g2⟩ => by
              have l7 := s7 _ _ h6
              have nn : ∀ {q : Addr} {xs : List V}, H7 q = some (.tup xs) → q ≠ Dl2 := fun e z => by
                rw [z, l7] at e
                cases e
              exact ⟨us, (upd_ne (nn g1)).trans g1, g2.mono fun q xs e => (upd_ne (nn e)).trans e⟩
            rw [List.take_succ, eo]
            exact sums_snoc ⟨hA6.1, fun j u L e1 e2 => h7 _ _ ((hA6.2 j u L e1 e2).mono s7)⟩ (h7 _ _ hSm)
      rintro H6 ⟨s6, ts, h6, hA6⟩
      have q6 : Pr x H1 H6 := Same.pr (s5.trans s6) x
      have zD2 : H1 Dl2 = none := s5.free hDl2
      have x6 := s6 _ _ (s5 _ _ hB.o)
      have nx2 : x ≠ Dl2 := ne_of_none hB.o zD2
      refine ⟨_, rfl, x, C, dx, _, rfl, x6, MR.cl, MR.sums, (by show 10 < 1000; decide), ?_⟩
      refine k _ Dl2 ts upd_same ((upd_ne nx2.symm).trans h6) ?_ (p1.fresh hB.o zD2) (p1.trans q6).at
      have lz : (sumsOf ws Ps).length = (ws.map V.str).length := by
        unfold sumsOf
        rw [List.length_zipWith, List.length_map, ld, Nat.min_self]
      rw [← lz, List.take_length] at hA6
      refine ⟨hA6.1, fun i t L e1 e2 => ?_⟩
      obtain ⟨us, g1, g2⟩ := hA6.2 i t L e1 e2
      have nn : ∀ {q : Addr} {xs : List V}, H6 q = some (.tup xs) → q ≠ x := fun e z => by
        rw [z, x6] at e
        cases e
      exact ⟨us, (upd_ne (nn g1)).trans g1, g2.mono fun q xs e => (upd_ne (nn e)).trans e⟩
end
end Rs
/-! reading.py: hand -/
namespace Rs
open PySem PySem.Spec PyProof.Rows L2 C8
section
variable {P : Program} {w : World} {K : PySem.W.Frag} {mg : Str → Option Value} {base : Heap} {C : Addr}
/-- what a call's frame is handed: a box or a sum -/
def spHand (K : PySem.W.Frag) (C : Addr) : Sp := fun vs H Q _ => ∃ (A B : Fd) (F G : Fv) (p z : Str), vs = [.ref A.x, .str p, .str z, .ref B.x] ∧ FAt C H A F ∧ FAt C H B G ∧ A.b ≠ A.s ∧ F.boxes.length ≤ 1000 ∧ F.sums.length ≤ 1000 ∧ G.own.length ≤ 100000 ∧ Tabs K H ∧ z.length ≤ 100000 ∧
  ((∃ n : Int, BoxIs G z n ∧ Q .non (upd H A.b (.dK (putK F.boxes (Sum.inr p) (.int n))))) ∨
   (isBox G z = false ∧ ∃ L : List (List Pp), SumIs H G z L ∧ ∀ (H' : Hp) (t : Addr), Same H H' → SmAt H' t (sumGo (splitSum z) L) → Q .non (upd H' A.s (.dK (putK F.sums (Sum.inr p) (.ref t))))))
theorem ok_hand (D : DefAt K mg "hand" sD_hand) (T : Txt w K mg) (M' : TxtF K C) (c_is_box : Cal P w K mg base 1 "is_box" (spIsBox C) []) (c_box_of : Cal P w K mg base 2 "box_of" (spBoxOf C) []) (c_sum_of : Cal P w K mg base 5 "sum_of" (spSumOf K C) []) : Cal P w K mg base 6 "hand" (spHand K C) [] := by
  refine cal_of D sc_hand (fun _ _ _ _ _ _ us hl => match us, hl with | [_, _, _, _], _ => rfl) (fun vs H Q E h => ?_) (fun cdv Ar outer s H vs Q E hr h => ?_)
  · obtain ⟨A, B, F, G, p, z, rfl, _⟩ := h
    rfl
  · obtain ⟨A, B, F, G, p, z, rfl, hA, hB, nbs, lb, ls, ho, hT, hz, h⟩ := h
    refine ⟨_, (pss_one (ps_if (pt_val (pe_c c_is_box hr (by decide) (by rfl) (pa_cons (pv 2) (pa_cons (pv 3) pa_nil))))
   (pss_one (ps_dput (hu_of hr) (pe_fld (pv 0) rfl) (pv 1) (pe_c c_box_of hr (by decide) (by rfl) (pa_cons (pv 2) (pa_cons (pv 3) pa_nil))) rfl))
   (pss_one (ps_dput (hu_of hr) (pe_fld (pv 0) rfl) (pv 1) (pe_c c_sum_of hr (by decide) (by rfl) (pa_cons (pv 2) (pa_cons (pv 3) pa_nil))) rfl)))), ?_⟩
    refine ⟨_, rfl, _, rfl, z, B, G, rfl, hB, _, rfl, ?_⟩
    rcases h with ⟨n, hn, k⟩ | ⟨hi, L, hS, k⟩
    · have hi : isBox G z = true := by
        unfold isBox
        rcases hn with y | ⟨_, y⟩
        · rw [y] <;> simp
        · have : z ∈ boxKeys := List.mem_map_of_mem (f := fun e : Str × Int => e.1) y
          rw [decide_eq_true this, Bool.true_or]
      rw [hi]
      refine iteT ?_
      refine ⟨_, rfl, _, rfl, z, n, B, G, rfl, hB, hn, _, rfl, A.x, C, A.dx, ff A F, _, rfl, hA.x, M'.cl, M'.boxes, rfl, _, rfl, A.b, _, rfl, DPut.k (k := Sum.inr p) hA.b (Nat.lt_of_le_of_lt lb (by decide)), k⟩
    · rw [hi]
      refine iteF ?_
      refine ⟨_, rfl, _, rfl, z, L, B, G, rfl, hz, ho, hT, hB, hS, fun H' t s1 hSm => ?_⟩
      refine ⟨_, rfl, A.x, C, A.dx, ff A F, _, rfl, s1 _ _ hA.x, M'.cl, M'.sums, rfl, _, rfl, A.s, _, rfl, DPut.k (k := Sum.inr p) (s1 _ _ hA.s) (Nat.lt_of_le_of_lt ls (by decide)), k H' t s1 hSm⟩
end
end Rs
/-! placing.py: sizes, places -/
namespace Rs
open PySem PySem.Spec PyProof.Rows L2 C8
theorem code_kd {o : Str} {c : Code} (h : codes.find? (fun c => decide (c.1.str = o)) = some c) : c ∈ codes ∧ c.1.str = o := ⟨List.mem_of_find?_eq_some h, of_decide_eq_true (by simpa using List.find?_some h)⟩
theorem shape_kd {R : Rm} (h : WfR R) (h0 : wordless R.op = false) (h1 : R.op ≠ ("room" : Str)) (h2 : R.op ≠ ("word" : Str)) : ∃ k : Kd, k.str = R.op ∧ sizeOp R.op = ((rSize k : Nat) : Int) := by
  have nw : R.op ∉ (["", "is", "at"] : List Str) := of_decide_eq_false h0
  rcases h with ⟨z, _⟩ | ⟨z, _⟩ | z | ⟨nb, nn, z, _⟩
  · exact absurd (by rw [z]; decide) nw
  · exact absurd (by rw [z]; decide) nw
  · exact absurd z h2
  · unfold shapeM at z
    by_cases q : R.op = ("take" : Str)
    · exact ⟨.take, q.symm, by unfold sizeOp; rw [if_pos q] <;> rfl⟩
    · rw [if_neg q, if_neg (fun y => y.elim (fun y => nw (by rw [y]; decide)) h1)] at z
      cases e : codes.find? (fun c => decide (c.1.str = R.op)) with
      | none =>
        rw [e] at z
        cases z
      | some c =>
        obtain ⟨m, ec⟩ := code_kd e
        refine ⟨c.1, ec, ?_⟩
        unfold sizeOp
        rw [if_neg q, e]
        have key : ∀ c ∈ codes, (1 + (c.2.2.2 : Int)) = ((rSize c.1 : Nat) : Int) := by decide +kernel
        exact key c m
section
variable {P : Program} {w : World} {K : PySem.W.Frag} {mg : Str → Option Value} {base : Heap} {C : Addr}
def spSizeOf (C : Addr) : Sp := fun vs H Q _ => ∃ (x : Addr) (R : Rm), vs = [.ref x] ∧ RowNow C H x R ∧ Q (.int (sizeM R)) H
theorem ok_size_of (D : DefAt K mg "size_of" sD_size_of) (T : Txt w K mg) (MR : TxtR K C) (c_row_size : Cal P w K mg base 1 "row_size" spSize []) : Cal P w K mg base 2 "size_of" (spSizeOf C) [] := by
  refine cal_of D sc_size_of (fun _ _ _ _ _ _ us hl => match us, hl with | [_], _ => rfl) (fun vs H Q E h => ?_) (fun cdv A outer s H vs Q E hr h => ?_)
  · obtain ⟨x, R, rfl, _⟩ := h
    rfl
  · obtain ⟨x, R, rfl, ⟨dx, b, sa, t, hx, hm⟩, k⟩ := h
    refine ⟨_, (pss_cons (ps_if (pt_cmpR op_in_seq (pe_fld (pv 0) rfl) (pe_gR (by rfl) T.g_WORDLESS) (by rfl))
   (pss_one (ps_ret pe_int))
   pss_nil)
  (pss_cons (ps_if (pt_cmpR op_eq (pe_fld (pv 0) rfl) pe_str (nomark _))
   (pss_one (ps_ret (pe_fld (pv 0) rfl)))
   pss_nil)
  (pss_cons (ps_if (pt_cmpR op_eq (pe_fld (pv 0) rfl) pe_str (nomark _))
   (pss_one (ps_ret (pe_callB call_len_seq (by rfl) T.free_len (by decide +kernel) (pa_cons (pe_fld (pv 0) rfl) pa_nil))))
   pss_nil)
  (pss_cons (ps_if (PW.pt (pw_and (pt_cmpR op_eq (pe_fld (pv 0) rfl) pe_str (nomark _)) (pw_and1 (pt_val (pe_fld (pv 0) rfl)))))
   (pss_one (ps_ret (pe_c c_row_size hr (by decide) (by rfl) (pa_cons pe_str pa_nil))))
   pss_nil)
  (pss_one (ps_ret (pe_c c_row_size hr (by decide) (by rfl) (pa_cons (pe_fld (pv 0) rfl) pa_nil)))))))), ?_⟩
    unfold sizeM at k
    refine ⟨_, rfl, x, C, dx, rfm R b sa t, _, rfl, hx, MR.cl, MR.op, rfl, _, _, rfl, .inr (T.t_WORDLESS _), rfl, rfl, _, rfl, ?_⟩
    rw [show (if (false : Bool) = true then !inV (V.str R.op) [.str "", .str "is", .str "at"] else inV (V.str R.op) [.str "", .str "is", .str "at"]) = wordless R.op from in_strs ["", "is", "at"]]
    cases e : wordless R.op with
    | true =>
      rw [if_pos e] at k
      exact iteT k
    | false =>
      rw [if_neg (by rw [e]; decide)] at k
      refine iteF ⟨_, rfl, x, C, dx, rfm R b sa t, _, rfl, hx, MR.cl, MR.op, rfl, rfl, _, rfl, ?_⟩
      by_cases q1 : R.op = ("room" : Str)
      · rw [if_pos q1] at k
        rw [decide_eq_true (congrArg V.str q1)]
        exact iteT ⟨_, rfl, x, C, dx, rfm R b sa t, _, rfl, hx, MR.cl, MR.amount, rfl, k⟩
      rw [if_neg q1] at k
      rw [decide_eq_false (fun z => q1 (V.str.inj z))]
      refine iteF ⟨_, rfl, x, C, dx, rfm R b sa t, _, rfl, hx, MR.cl, MR.op, rfl, rfl, _, rfl, ?_⟩
      by_cases q2 : R.op = ("word" : Str)
      · rw [if_pos q2] at k
        rw [decide_eq_true (congrArg V.str q2)]
        obtain ⟨ts, g1, g2⟩ := hm.s
        refine iteT ⟨_, rfl, x, C, dx, rfm R b sa t, _, rfl, hx, MR.cl, MR.sums, rfl, sa, _, rfl, .inl (SqL.of g1), ?_⟩
        rw [List.length_map, g2.1]
        exact k
      rw [if_neg q2] at k
      rw [decide_eq_false (fun z => q2 (V.str.inj z))]
      obtain ⟨kd, hk, hs⟩ := shape_kd hm.wf e q1 q2
      refine iteF ⟨_, rfl, x, C, dx, rfm R b sa t, _, rfl, hx, MR.cl, MR.op, rfl, rfl, _, rfl, ?_⟩
      by_cases q3 : R.op = ("take" : Str)
      · rw [decide_eq_true (congrArg V.str q3)]
        refine iteT ⟨_, rfl, x, C, dx, rfm R b sa t, _, rfl, hx, MR.cl, MR.long, rfl, _, rfl, ?_⟩
        cases el : R.long with
        | true =>
          rw [if_pos ⟨q3, el⟩] at k
          exact iteT ⟨.takeL, rfl, k⟩
        | false =>
          rw [if_neg (fun z => by rw [el] at z; cases z.2)] at k
          exact iteF ⟨_, rfl, x, C, dx, rfm R b sa t, _, rfl, hx, MR.cl, MR.op, rfl, kd, by rw [hk] <;> rfl, by rw [← hs]; exact k⟩
      · rw [if_neg (fun z => q3 z.1)] at k
        rw [decide_eq_false (fun z => q3 (V.str.inj z))]
        exact iteF (iteF ⟨_, rfl, x, C, dx, rfm R b sa t, _, rfl, hx, MR.cl, MR.op, rfl, kd, by rw [hk] <;> rfl, by rw [← hs]; exact k⟩)
end
end Rs
/-! placing.py: set_places, is_growing, check_room, fitted -/
namespace Rs
open PySem PySem.Spec PyProof.Rows L2 C8
theorem set_mid {α : Type} {A r : List α} {x y : α} {i : Nat} (h : A.length = i) : (A ++ x :: r).set i y = A ++ [y] ++ r := by
  subst h
  rw [List.set_append_right _ _ (Nat.le_refl _), Nat.sub_self, List.append_assoc]
  rfl
theorem get_mid {α : Type} {A r : List α} {x : α} {i : Nat} (h : A.length = i) : (A ++ x :: r)[i]? = some x := by
  subst h
  rw [List.getElem?_append_right (Nat.le_refl _), Nat.sub_self]
  rfl
theorem placeM_cons {R : Rm} {r : List Rm} {p : Int} : placeM (R :: r) p = { R with place := p } :: placeM r (nextM R p) := rfl
theorem endM_cons {R : Rm} {r : List Rm} {p : Int} : endM (R :: r) p = endM r (nextM R p) := rfl
section
variable {P : Program} {w : World} {K : PySem.W.Frag} {mg : Str → Option Value} {base : Heap} {C : Addr}
theorem RowsAt.lst {I H H' : Hp} {xs : List Addr} {Rs : List Rm} {r : Addr} {l : List V} (h : RowsAt C I H xs Rs) (e : H r = some (.lst l)) (k : KpS xs H H') : H' r = some (.lst l) := k _ _ e (h.notIn e (fun _ _ z => by cases z))
def spPlaces (C : Addr) : Sp := fun vs H Q _ => ∃ (r : Addr) (I : Hp) (xs : List Addr) (Rs : List Rm), vs = [.ref r] ∧ H r = some (.lst (xs.map V.ref)) ∧ RowsAt C I H xs Rs ∧ ∀ H', RowsAt C I H' xs (placeM Rs 0) → KpS xs H H' → Q (.int (endM Rs 0)) H'
theorem ok_set_places (D : DefAt K mg "set_places" sD_set_places) (T : Txt w K mg) (MR : TxtR K C) (c_size_of : Cal P w K mg base 2 "size_of" (spSizeOf C) []) : Cal P w K mg base 3 "set_places" (spPlaces C) [] := by
  refine cal_of D sc_set_places (fun _ _ _ _ _ _ us hl => match us, hl with | [_], _ => rfl) (fun vs H Q E h => ?_) (fun cdv A outer s H vs Q E hr h => ?_)
  · obtain ⟨r, I, xs, Rs, rfl, _⟩ := h
    rfl
  · obtain ⟨r, I, xs, Rs, rfl, hl, hR, k⟩ := h
    refine ⟨_, (pss_cons (ps_set (i := 1) sc_set_places.nd rfl (Or.inl rfl) pe_int)
  (pss_cons (ps_for PassesOwn.never rfl (pi_list (pv 0)) (pg_name (i := 2) sc_set_places.nd rfl (Or.inl rfl))
   (pss_cons (ps_fld (pv 2) (pv 1) rfl)
  (pss_one (ps_set (i := 1) sc_set_places.nd rfl (Or.inl rfl) (pe_ifExp (pt_cmpR op_eq (pe_fld (pv 2) rfl) pe_str (nomark _)) (pe_fld (pv 2) rfl) (pe_op op_add (pv 1) (pe_c c_size_of hr (by decide) (by rfl) (pa_cons (pv 2) pa_nil))))))))
  (pss_one (ps_ret (pv 1))))), ?_⟩
    refine ⟨_, rfl, r, rfl, ⟨_, SqL.of hl⟩, for_it (walk_list (K := K) (a := r) (xs := xs.map V.ref)) (fun i σ H' => ∃ (p : Int) (x2 : Option V) (A : List Rm), σ = [some (.ref r), some (.int p), x2] ∧ A.length = i ∧ placeM Rs 0 = A ++ placeM (Rs.drop i) p ∧ endM Rs 0 = endM (Rs.drop i) p ∧ RowsAt C I H' xs (A ++ Rs.drop i) ∧ KpS xs H H') ⟨_, _, [], rfl, rfl, rfl, rfl, hR, KpS.refl _ _⟩ (fun i σ H' _ ⟨_, _, _, _, _, _, _, _, z⟩ => SqL.of (hR.lst hl z)) ?_ ?_⟩
    · rintro i v σ H1 H2 hi ⟨p, x2, A, rfl, hA, e1, e2, h1, k1⟩ ⟨rfl, hv⟩
      obtain ⟨x, ex, rfl⟩ := map_at hv
      obtain ⟨R, eR, _⟩ := hR.at_.get ex
      rw [drop_cons eR] at e1 e2 h1
      rw [placeM_cons] at e1
      rw [endM_cons] at e2
      obtain ⟨dx, b, sa, t, hx, hix, hm⟩ := h1.at_.2 i x R ex (get_mid hA)
      have hm' : RowIm I b sa t { R with place := p } := ⟨hm.b, hm.s, hm.t, hm.sg, hm.wf, hm.few, hm.lab, hm.gv⟩
      have h2 : RowsAt C I (upd H2 x (.ins C dx (rfm { R with place := p } b sa t))) xs ((A ++ [{ R with place := p }]) ++ Rs.drop (i + 1)) := by
        have := h1.set (dx := dx) ex hm'
        rw [set_mid hA] at this
        exact this
      have k2 := k1.at (o := .ins C dx (rfm { R with place := p } b sa t)) (List.mem_of_getElem? ex)
      have x2 : upd H2 x (.ins C dx (rfm { R with place := p } b sa t)) x = some (.ins C dx (rfm { R with place := p } b sa t)) := upd_same
      refine ⟨_, rfl, _, rfl, x, C, dx, rfm R b sa t, rfl, hx, MR.cl, MR.place, (by show 10 < 1000; decide), ?_⟩
      rw [show putF "place" (.int p) (rfm R b sa t) = rfm { R with place := p } b sa t from rfl]
      generalize upd H2 x (.ins C dx (rfm { R with place := p } b sa t)) = H3 at h2 k2 x2 ⊢
      refine ⟨_, rfl, x, C, dx, _, _, rfl, x2, MR.cl, MR.op, rfl, rfl, _, rfl, ?_⟩
      have fin : ∀ (n : Int), n = nextM R p → ∃ (p' : Int) (y : Option V) (A' : List Rm), ([some (V.ref r), some (.int n), some (.ref x)] : List (Option V)) = [some (.ref r), some (.int p'), y] ∧ A'.length = i + 1 ∧ placeM Rs 0 = A' ++ placeM (Rs.drop (i + 1)) p' ∧ endM Rs 0 = endM (Rs.drop (i + 1)) p' ∧ RowsAt C I H3 xs (A' ++ Rs.drop (i + 1)) ∧ KpS xs H H3 := fun n hn =>
        ⟨n, _, A ++ [{ R with place := p }], rfl, by rw [List.length_append, hA] <;> rfl, by rw [e1, hn, List.append_assoc] <;> rfl, by rw [e2, hn], h2, k2⟩
      by_cases q : R.op = ("at" : Str)
      · rw [show decide (V.str ({ R with place := p } : Rm).op = V.str "at") = true from decide_eq_true (congrArg V.str q)]
        refine iteT ⟨_, rfl, x, C, dx, _, _, rfl, x2, MR.cl, MR.amount, rfl, ?_⟩
        exact fin R.amount (if_pos q).symm
      · rw [show decide (V.str ({ R with place := p } : Rm).op = V.str "at") = false from decide_eq_false (fun z => q (V.str.inj z))]
        refine iteF ⟨_, rfl, _, rfl, x, { R with place := p }, rfl, ⟨dx, b, sa, t, x2, hm'.same h2.sub⟩, _, _, rfl, rfl, ?_⟩
        exact fin (p + sizeM { R with place := p }) (if_neg q).symm
    · rintro σ H1 ⟨p, x2, A, rfl, hA, e1, e2, h1, k1⟩
      have hn : (xs.map V.ref).length = Rs.length := by rw [List.length_map, hR.at_.1]
      rw [hn, List.drop_length] at e1 e2 h1
      have e3 : placeM Rs 0 = A := by rw [e1]; exact List.append_nil _
      have e4 : endM Rs 0 = p := e2
      rw [List.append_nil, ← e3] at h1
      refine ⟨_, rfl, ?_⟩
      rw [← e4]
      exact k H1 h1 k1
/-- all names of a sum are known -/
def KnownL (m : List (Str × Int)) (L : List Pp) : Prop := ∀ n ∈ namesIn L, n ≠ ("here" : Str) → ∃ x : Int, getL m n = some x
theorem worth_kv {m : List (Str × Int)} {here : Int} {L : List Pp} (hg : SgOk L) (hk : KnownL m L) : Known (kv V.int m) L ∧ worthOf (kv V.int m) here L = worthM m here L := by
  have hw : ∀ k : Key, wOf (kv V.int m) here k = wM m here k := fun k => by
    cases k with
    | inl n => rfl
    | inr n =>
      show (if n = ("here" : Str) then here else match valV (kv V.int m) (Sum.inr n) with | some (.int x) => x | _ => 0) = (if n = ("here" : Str) then here else (getL m n).getD 0)
      rw [kv_get]
      by_cases q : n = ("here" : Str)
      · rw [if_pos q, if_pos q]
      · rw [if_neg q, if_neg q]
        cases getL m n <;> rfl
  refine ⟨fun e he => ⟨hg.1 e he, fun n hn hh => ?_⟩, ?_⟩
  · obtain ⟨x, hx⟩ := hk n (List.mem_filterMap.mpr ⟨e, he, by unfold nameOfP; rw [hn]⟩) hh
    exact ⟨x, by rw [kv_get, hx] <;> rfl⟩
  · unfold worthOf worthM
    have go : ∀ (L : List Pp) (t : Int), worthGo (kv V.int m) here L t = L.foldl (fun t e => t + e.1 * wM m here e.2) t := fun L => by
      induction L with
      | nil => exact fun t => rfl
      | cons e r ih =>
        intro t
        rw [worthGo_cons, hw, List.foldl_cons]
        exact ih _
    exact go L 0
def spWorthM : Sp := fun vs H Q _ => ∃ (t d : Addr) (here : Int) (L : List Pp) (m : List (Str × Int)), vs = [.ref t, .int here, .ref d] ∧ SmAt H t L ∧ H d = some (.dK (kv V.int m)) ∧ SgOk L ∧ KnownL m L ∧ Q (.int (worthM m here L)) H
theorem Cal.imp {k : Nat} {x : Str} {sp sp' : Sp} {dvs : List V} (c : Cal P w K mg base k x sp dvs) (h : ∀ vs H Q E, sp' vs H Q E → sp vs H Q E) : Cal P w K mg base k x sp' dvs := by
  obtain ⟨f, fd, ps, ds, F, a, b, c, d⟩ := c.ex
  exact ⟨f, fd, ps, ds, F.imp h, a, b, c, d⟩
theorem worth_m (c : Cal P w K mg base 1 "worth_of" spWorth []) : Cal P w K mg base 1 "worth_of" spWorthM [] := by
  refine Cal.imp c fun vs H Q E ⟨t, d, here, L, m, e, h1, h2, h3, h4, q⟩ => ?_
  obtain ⟨a, b⟩ := worth_kv (here := here) h3 h4
  exact ⟨t, d, here, L, _, e, h1, h2, a, by rw [b]; exact q⟩
/-- the first sum of a row -/
theorem RowIm.sum0 {H : Hp} {b s t : Addr} {R : Rm} (h : RowIm H b s t R) (h1 : R.sums.length = 1) : ∃ u : Addr, H s = some (.lst [.ref u]) ∧ SmAt H u R.sum0 ∧ SgOk R.sum0 := by
  obtain ⟨ts, g1, g2⟩ := h.s
  cases e : R.sums with
  | nil =>
    rw [e] at h1
    cases h1
  | cons L r =>
    rw [e] at h1
    have er : r = [] := List.eq_nil_of_length_eq_zero (by simpa using h1)
    subst er
    have hl : ts.length = 1 := by rw [g2.1, e] <;> rfl
    cases ts with
    | nil => cases hl
    | cons u v =>
      have ev : v = [] := List.eq_nil_of_length_eq_zero (by simpa using hl)
      subst ev
      have e0 : R.sum0 = L := by
        unfold Rm.sum0
        rw [e] <;> rfl
      refine ⟨u, g1, ?_, ?_⟩
      · rw [e0]
        exact g2.2 0 u L rfl (by rw [e] <;> rfl)
      · rw [e0]
        exact h.sg L (by rw [e]; exact List.mem_cons_self)
theorem wf_take {R : Rm} (h : WfR R) (q : R.op = ("take" : Str)) : R.boxes.length = 1 ∧ R.sums.length = 1 := by
  rcases h with ⟨z, _⟩ | ⟨z, _⟩ | z | ⟨nb, nn, z, z1, z2⟩
  · rw [q] at z
    exact absurd z (by decide)
  · rw [q] at z
    exact absurd z (by decide)
  · rw [q] at z
    exact absurd z (by decide)
  · rw [q] at z
    cases z
    exact ⟨z1, z2⟩
def spGrowing (C : Addr) : Sp := fun vs H Q _ => ∃ (x d : Addr) (R : Rm) (m : List (Str × Int)), vs = [.ref x, .ref d] ∧ RowNow C H x R ∧ H d = some (.dK (kv V.int m)) ∧ (R.op = ("take" : Str) → KnownL m R.sum0) ∧ Q (.bl (growing m R)) H
theorem ok_is_growing (D : DefAt K mg "is_growing" sD_is_growing) (T : Txt w K mg) (MR : TxtR K C) (c_worth_of : Cal P w K mg base 1 "worth_of" spWorthM []) : Cal P w K mg base 2 "is_growing" (spGrowing C) [] := by
  refine cal_of D sc_is_growing (fun _ _ _ _ _ _ us hl => match us, hl with | [_, _], _ => rfl) (fun vs H Q E h => ?_) (fun cdv A outer s H vs Q E hr h => ?_)
  · obtain ⟨x, d, R, m, rfl, _⟩ := h
    rfl
  · obtain ⟨x, d, R, m, rfl, ⟨dx, b, sa, t, hx, hm⟩, hd, hk, k⟩ := h
    refine ⟨_, (pss_cons (ps_if (PW.pt (pw_or (pt_cmpR op_ne (pe_fld (pv 0) rfl) pe_str (nomark _)) (pw_or1 (pt_val (pe_fld (pv 0) rfl)))))
   (pss_one (ps_ret pe_bl))
   pss_nil)
  (pss_one (ps_ret (pe_not (pe_chain op_le op_le pe_int (pe_c c_worth_of hr (by decide) (by rfl) (pa_cons (pe_ix ix_list (pe_fld (pv 0) rfl) pe_int (fun _ _ => rfl)) (pa_cons (pe_fld (pv 0) rfl) (pa_cons (pv 1) pa_nil)))) (pe_gI (by rfl) T.g_SHORT_MOST)))))), ?_⟩
    unfold growing at k
    refine ⟨_, rfl, x, C, dx, rfm R b sa t, _, rfl, hx, MR.cl, MR.op, rfl, rfl, _, rfl, ?_⟩
    by_cases q : R.op = ("take" : Str)
    · rw [decide_eq_true q, Bool.true_and] at k
      rw [show (!decide (V.str R.op = V.str "take")) = false by rw [decide_eq_true (congrArg V.str q)] <;> rfl]
      refine iteF ⟨_, rfl, x, C, dx, rfm R b sa t, _, rfl, hx, MR.cl, MR.long, rfl, _, rfl, ?_⟩
      cases el : R.long with
      | true =>
        rw [el] at k
        exact iteT k
      | false =>
        rw [el, Bool.not_false, Bool.true_and] at k
        refine iteF ?_
        obtain ⟨u, g1, g2, g3⟩ := hm.sum0 (wf_take hm.wf q).2
        refine ⟨_, rfl, x, C, dx, rfm R b sa t, _, rfl, hx, MR.cl, MR.sums, rfl, sa, _, _, _, rfl, rfl, SqL.of g1, atI_nat (j := 0) rfl, _, rfl, x, C, dx, rfm R b sa t, _, rfl, hx, MR.cl, MR.place, rfl, _, rfl, u, d, R.place, R.sum0, m, rfl, g2, hd, g3, hk q, _, _, rfl, rfl, _, rfl, ?_⟩
        by_cases h0 : 0 ≤ worthM m R.place R.sum0
        · rw [decide_eq_true h0]
          refine iteT ⟨_, _, rfl, rfl, _, rfl, ?_⟩
          by_cases h1 : worthM m R.place R.sum0 ≤ 7
          · rw [decide_eq_true h1]
            rw [decide_eq_true ⟨h0, h1⟩] at k
            exact k
          · rw [decide_eq_false h1]
            rw [decide_eq_false (fun z => h1 z.2)] at k
            exact k
        · rw [decide_eq_false h0]
          rw [decide_eq_false (fun z => h0 z.1)] at k
          exact iteF ⟨_, rfl, k⟩
    · rw [decide_eq_false q, Bool.false_and] at k
      rw [show (!decide (V.str R.op = V.str "take")) = true by rw [decide_eq_false (fun z => q (V.str.inj z))] <;> rfl]
      exact iteT k
end
end Rs
/-! name = {..} on one line; a dict comprehension over a list; tuple * int for any int; xs[a:b] = ys -/
namespace Rg
open PySem PySem.Spec PyProof.Rows L2
section
variable {X : Cx}
/-- name = {k: v for ..} on one line, the name a local -/
theorem ps_setDc {i : Nat} {y : Str} {py : Pos} {kx vx tg iter : Expr} {ifs : List Expr} {scope : Scope} {own : List (Str × Nat)} {pos spos : Pos} {wi : TI} {g : TG} {tt : TT} {tk tv : TE} (hc : X.calm = true) (hN : X.N.Nodup) (hy : X.N[i]? = some y) (hyl : X.env.scope.names.lookup y = some .local)
    (hsw : swapsWith (.DictComp kx vx [⟨tg, iter, ifs, 0⟩] scope pos) (some (.Name y py)) spos.line X.env = pure true) (hi : PI X tg iter wi) (ok : BlkOk X.N X.env.scope scope own)
    (hg : ∀ (s : Shared) (H : Hp) (C : Addr) (cl : List (Str × Addr)) (fp : List Addr), PG (X.blk s H scope (compEnvC scope cl C X.env) fp) tg g) (ht : ∀ (s : Shared) (H : Hp) (C : Addr) (cl : List (Str × Addr)) (fp : List Addr), PTs (X.blk s H scope (compEnvC scope cl C X.env) fp) ifs tt)
    (hk : ∀ (s : Shared) (H : Hp) (C : Addr) (cl : List (Str × Addr)) (fp : List Addr), PE (X.blk s H scope (compEnvC scope cl C X.env) fp) kx tk)
    (he : ∀ (s : Shared) (H : Hp) (C : Addr) (cl : List (Str × Addr)) (fp : List Addr), PE (X.blk s H scope (compEnvC scope cl C X.env) fp) vx tv) (hs : ∀ x, foldedSetIterable iter X.env x = pure x := by intro _; rfl) :
    PS X (.Assign [.Name y py] (.DictComp kx vx [⟨tg, iter, ifs, 0⟩] scope pos) spos) (tAsg (tDc wi g tt tk tv (own.map (·.2))) (gName i)) := by
  refine ⟨fun pins s σ H D I h => ?_⟩
  rw [exec_Assign_Name_used _ _ _ _ hsw]
  refine wpAny_bind (wpAny_standAt (wpAny_bind ?_))
  show wpAny _ X.A (do let _ ← comprehension (.DictComp kx vx [⟨tg, iter, ifs, 0⟩] scope pos) scope X.env (firstIterPos [⟨tg, iter, ifs, 0⟩] pos) newDict false (eval iter X.env) (some (assign (.Name y py) X.env))) _ _ s
  have h : tDc wi g tt tk tv (own.map (·.2)) σ H (fun x H1 => gName i x σ H1 D.nx) := h
  refine wpAny_bind (thn (dc_core (Qf := fun _ s' => SP X pins D .next s') hc hN I hi ok hg ht hk he hs h fun L C s' m H' I' q hn f => ?_) fun _ s' hq => wpAny_pure (wpAny_pure hq))
  show wpAny _ _ (assign (.Name y py) X.env (.ref L)) _ _ _
  refine wpAny_assign_Name (store_ok2 (v := V.ref L) I' hN hy (.inl hyl) rfl (fun s2 I2 ⟨a, sb, ha⟩ => ?_) (.inr hyl))
  obtain ⟨f0, f1, f2, f3, f4, f5⟩ := f
  have haC : C ≠ a := by
    rcases ha with z | z
    · rw [z]; exact f1
    · exact fun e => f4 y a z e.symm
  refine ⟨m, hn.sameBut sb haC, fun h3 sb3 => ?_⟩
  exact ⟨_, H', I2.turned (t' := s2.toks) (fun b o hb e => (sb3.2 b hb).trans e) f0 f1 f3 f4 f5, q⟩
theorem sw_trueD {kx vx : Expr} {gs : List Comprehension} {scope : Scope} {pos py : Pos} {y : Str} {l : Nat} {env : Env} (hk : env.scope.kind = .function) (hy : env.scope.names.lookup y = some .local) (hl : (py.line == pos.line) = true)
    (ha : (scope.names.any fun (n, k) => n == y && (k == .local || k == .cell)) = false) : swapsWith (.DictComp kx vx gs scope pos) (some (.Name y py)) l env = pure true := by
  have ky : env.kindOf y = some .local := hy
  have hb : env.blockKind = .function := by unfold Env.blockKind; rw [hk]; rfl
  unfold swapsWith
  simp only [hb, ky, ha, Expr.pos, hl]
  rfl
theorem dc_list {K : PySem.W.Frag} {a : Addr} {xs : List V} {g : TG} {tt : TT} {tk tv : TE} {vs : List Nat} {σ : L2.St} {H1 : Hp} {D : Addr} {Qd : Hp → Prop} (Pv : Nat → Hp → Prop) (h0 : Pv 0 (upd H1 D (.dK []))) (hl : ∀ i H, i ≤ xs.length → Pv i H → SqL K H a xs)
    (hs : ∀ i x H, xs[i]? = some x → Pv i H → g x (wipe σ vs) H fun σ2 H2 => wipe σ2 vs = wipe σ vs ∧ tt σ2 H2 fun b H3 =>
      if b = true then tk σ2 H3 fun y H4 => tv σ2 H4 fun z H5 => ∃ kvs k, y = kV k ∧ H5 D = some (.dK kvs) ∧ kvs.length < sizeLine ∧ Pv (i + 1) (upd H5 D (.dK (putK kvs k z))) else Pv (i + 1) H3) (hd : ∀ H, Pv xs.length H → Qd H) :
    ∃ W : Nat → Nat → Hp → Prop, (∃ m, W 0 m (upd H1 D (.dK []))) ∧ ∀ i m H, W i m H →
      ((Itl K a).stop i H ∧ Qd H) ∨ ((Itl K a).go i H ∧ ∃ Nx : Hp → Prop, (∀ H', Nx H' → ∃ m', m' < m ∧ W (i + 1) m' H') ∧ ∀ x H', (Itl K a).yld i H x H' → g x (wipe σ vs) H' fun σ2 H2 => wipe σ2 vs = wipe σ vs ∧ tt σ2 H2 fun b H3 =>
        if b = true then tk σ2 H3 fun y H4 => tv σ2 H4 fun z H5 => ∃ kvs k, y = kV k ∧ H5 D = some (.dK kvs) ∧ kvs.length < sizeLine ∧ Nx (upd H5 D (.dK (putK kvs k z))) else Nx H3) := by
  refine ⟨fun i m H => m = xs.length - i ∧ i ≤ xs.length ∧ Pv i H, ⟨xs.length, by simp, Nat.zero_le _, h0⟩, ?_⟩
  rintro i m H ⟨rfl, hi, p⟩
  have q := hl i H hi p
  by_cases hlt : i < xs.length
  · refine .inr ⟨⟨xs, xs[i], q, by simp [hlt]⟩, Pv (i + 1), fun H' p' => ⟨xs.length - (i + 1), by omega, rfl, hlt, p'⟩, fun x H' y => ?_⟩
    obtain ⟨e, y⟩ := y
    subst e
    exact hs i x _ (y xs q) p
  · have e : i = xs.length := by omega
    subst e
    exact .inl ⟨⟨xs, q, Nat.le_refl _⟩, hd H p⟩
end
/-! ### tuple * int -/
theorem tuple_mul1 (l : Addr) (items : Array Value) (n : Nat) (dd : Option Addr) (sl : Array (Option Value)) (x : Int) (u : Tok) (c0 : (decide (x < -(2 ^ 63)) || decide (x ≥ 2 ^ 63)) = false) (c1 : (items.isEmpty || x == 1) = true) :
    Meets (Builtin.«tuple.__mul__» ⟨[.ref l, .int x u], []⟩) (fun _ R s => s.heap.get? l = some { cls := .type "tuple", dict := dd, data := .seq items n, slots := sl } ∧ R (.ok (.ret (Value.ref l))) s) :=
  .of_wp fun prog w A R s h => by
    obtain ⟨hp, g, d, tk, os⟩ := s
    obtain ⟨hl, h⟩ := h
    have f1 := AutoSeq1.idx_int
    wp_walk using wpAny_loadPart' hl
    repeat (first
      | (refine wpAny_ite_false (decide_eq_false (by rw [c0]; exact Bool.false_ne_true)) ?_; wp_walk using wpAny_loadPart' hl)
      | (refine wpAny_ite_true (decide_eq_true (by rw [c1])) ?_; wp_walk using wpAny_loadPart' hl))
    exact ⟨_, rfl, h⟩
theorem tuple_mul0 (l : Addr) (items : Array Value) (n : Nat) (dd : Option Addr) (sl : Array (Option Value)) (x : Int) (u : Tok) (c0 : (decide (x < -(2 ^ 63)) || decide (x ≥ 2 ^ 63)) = false) (c1 : (items.isEmpty || x == 1) = false) (c2 : (decide (x ≤ 0) || items.isEmpty) = true) :
    Meets (Builtin.«tuple.__mul__» ⟨[.ref l, .int x u], []⟩) (fun _ R s => s.heap.get? l = some { cls := .type "tuple", dict := dd, data := .seq items n, slots := sl } ∧
      R (.ok (.ret (Value.ref s.heap.objs.size))) { s with heap := s.heap.push { cls := Value.type "tuple", data := Data.seq #[] }, toks := s.toks }) :=
  .of_wp fun prog w A R s h => by
    obtain ⟨hp, g, d, tk, os⟩ := s
    obtain ⟨hl, h⟩ := h
    have f1 := AutoSeq1.idx_int
    wp_walk using wpAny_loadPart' hl
    repeat (first
      | (refine wpAny_ite_false (decide_eq_false (by rw [c0]; exact Bool.false_ne_true)) ?_; wp_walk using wpAny_loadPart' hl)
      | (refine wpAny_ite_false (decide_eq_false (by rw [c1]; exact Bool.false_ne_true)) ?_; wp_walk using wpAny_loadPart' hl)
      | (refine wpAny_ite_true (decide_eq_true (by rw [c2])) ?_; wp_walk using wpAny_loadPart' hl)
      | (refine wpAny_ite_false (decide_eq_false (Nat.not_lt.mpr (Nat.zero_le _))) ?_; wp_walk using wpAny_loadPart' hl))
    exact ⟨_, rfl, h⟩
def rRepA (K : PySem.W.Frag) : R2 := fun x y H Q => ∃ l k xs, x = .ref l ∧ y = .int k ∧ SqT K H l xs ∧ xs ≠ [] ∧ -1000 ≤ k ∧ k ≤ 1000 ∧ xs.length ≤ 1000 ∧ (k = 1 → Q (.ref l) H) ∧ (k ≠ 1 → ∀ p, H p = none → Q (.ref p) (upd H p (.tup (List.replicate k.toNat xs).flatten)))
section
variable {X : Cx}
theorem op_repA : OpR X (binaryOp .Mult) (rRepA X.K) := by
  intro pins s σ H x y v u Q I rx ry h
  by_cases h2 : ∃ k, y = .int k ∧ 2 ≤ k
  · obtain ⟨l, k, xs, rfl, rfl, hT, hne, h0, h1, hz, q1, q⟩ := h
    obtain ⟨k', e, h2⟩ := h2
    cases e
    exact op_repT pins s σ H _ _ v u Q I rx ry ⟨l, k, xs, rfl, rfl, hT, hne, h2, h1, hz, q (by omega)⟩
  obtain ⟨l, k, xs, rfl, rfl, hT, hne, h0, h1, hz, q1, q⟩ := h
  cases rx
  obtain ⟨t, rfl⟩ := ry
  obtain ⟨its, r, ⟨⟨cls, dd, data, sl⟩, ho, hc, n, hd⟩, hs⟩ := I.tuple hT
  simp only at hc hd
  subst hc hd
  have hk : k ≤ 1 := by
    have : ¬ 2 ≤ k := fun z => h2 ⟨k, rfl, z⟩
    omega
  have hle : its.length = xs.length := r.length.symm
  have hn : its ≠ [] := fun e => hne (by
    rw [e] at hle
    exact List.eq_nil_of_length_eq_zero hle.symm)
  have hi : its.toArray.isEmpty = false := by
    cases its with
    | nil => exact absurd rfl hn
    | cons a b => rfl
  have c0 : (decide (k < -(2 ^ 63)) || decide (k ≥ 2 ^ 63)) = false := by
    rw [decide_eq_false (by omega), decide_eq_false (by omega)] <;> rfl
  by_cases hk1 : k = 1
  · have c1 : (its.toArray.isEmpty || k == 1) = true := by
      rw [hk1] <;> simp
    refine wpAny_binaryOp_repeat_ref (T := "tuple") (U := "int") (by decide) ⟨_, ho, rfl⟩ (fun s' => typeIs_int s' k t) noFill_tuple_mul F.fills_int_mul F.slot_int_rmul repeat_tuple F.slot_int_index.lookup
      (call_meets F.slot_int_rmul (typeIs_int s k t) F.entry_int_rmul (F.args_int_rmul_2 _ _) (int_rmul_tuple k t l its.toArray n dd sl)
        ⟨ho, rfl, ⟨_, ho, rfl⟩, call_meets F.slot_tuple_mul ⟨_, ho, rfl⟩ F.entry_tuple_mul (F.args_tuple_mul_2 _ _) (tuple_mul1 l its.toArray n dd sl k t c0 c1) ⟨ho, ?_⟩⟩)
    exact ⟨.ref l, H, I, rfl, q1 hk1⟩
  · have c1 : (its.toArray.isEmpty || k == 1) = false := by
      rw [hi, Bool.false_or]
      exact beq_eq_false_iff_ne.mpr hk1
    have c2 : (decide (k ≤ 0) || its.toArray.isEmpty) = true := by
      rw [decide_eq_true (by omega), Bool.true_or]
    refine wpAny_binaryOp_repeat_ref (T := "tuple") (U := "int") (by decide) ⟨_, ho, rfl⟩ (fun s' => typeIs_int s' k t) noFill_tuple_mul F.fills_int_mul F.slot_int_rmul repeat_tuple F.slot_int_index.lookup
      (call_meets F.slot_int_rmul (typeIs_int s k t) F.entry_int_rmul (F.args_int_rmul_2 _ _) (int_rmul_tuple k t l its.toArray n dd sl)
        ⟨ho, rfl, ⟨_, ho, rfl⟩, call_meets F.slot_tuple_mul ⟨_, ho, rfl⟩ F.entry_tuple_mul (F.args_tuple_mul_2 _ _) (tuple_mul0 l its.toArray n dd sl k t c0 c1 c2) ⟨ho, ?_⟩⟩)
    have hk0 : k.toNat = 0 := by omega
    have q2 := q hk1
    rw [hk0] at q2
    refine ⟨.ref s.heap.objs.size, _, I.laid (t' := s.toks) (o := .tup []) (fun b ob q => Heap.get?_push_of_some _ q) (Nat.le_refl _) ?_, rfl, q2 _ (I.hok.fresh (Nat.le_refl _))⟩
    exact ⟨Nat.zero_le _, [], .nil, IsTup.new _ _⟩
/-- o[a:b] = v -/
def gSl (to : TE) (tl th : TE) : TG := fun v σ H Q => to σ H fun x H1 => tl σ H1 fun a H2 => th σ H2 fun c H3 => ∃ (l b : Addr) (xs ys : List V) (i j : Int), x = .ref l ∧ v = .ref b ∧ a = .int i ∧ c = .int j ∧ H3 l = some (.lst xs) ∧ H3 b = some (.lst ys) ∧ l ≠ b ∧ 0 ≤ i ∧ i ≤ j ∧ j ≤ xs.length ∧ xs.length + ys.length ≤ sizeLine ∧
  Q σ (upd H3 l (.lst (xs.take i.toNat ++ ys ++ xs.drop j.toNat)))
theorem pg_slice {o lo hi : Expr} {to tl th : TE} {p2 pos : Pos} (ho : PE X o to) (hl : PE X lo tl) (hh : PE X hi th) : PG X (.Subscript o (.Slice (some lo) (some hi) none p2) pos) (gSl to tl th) := by
  refine ⟨fun pins s σ H v u Q I r h => ?_⟩
  rw [arm_assign_Subscript]
  refine wpAny_bind (wpAny_holding (thn (ho.run pins s σ H _ I h) fun ov s1 ⟨x, H1, I1, r1, q1⟩ => ?_))
  refine wpAny_bind (wpAny_holding (wpAny_Slice ?_))
  rw [evalPart_some, evalPart_some, evalPart_none]
  refine thn (hl.run pins s1 σ H1 _ I1 q1) fun vl s2 ⟨a, H2, I2, ra, q2⟩ => thn (hh.run pins s2 σ H2 _ I2 q2) fun vu s3 ⟨c, H3, I3, rc, q3⟩ => wpAny_pure ?_
  obtain ⟨l, b, xs, ys, i, j, rfl, rfl, rfl, rfl, e1, e2, ne, h0, h1, h2, hz, q⟩ := q3
  have I4 : Inv X pins σ H3 { s3 with heap := s3.heap.push { cls := .type "slice", data := .fields #[vl, vu, .none] } } := I3.kept (t' := s3.toks) fun b ob q => Heap.get?_push_of_some _ q
  obtain rfl : ov = Value.ref l := r1
  obtain rfl : u = Value.ref b := r
  refine wpAny_bind (wpAny_standAt (wpAny_bind (wpAny_holding (set_slice I4 e1 e2 ne (Heap.IsSliceOf.new ..) ra rc h0 h1 h2 hz fun s5 I5 => ?_))))
  exact wpAny_release ⟨σ, _, I5, q⟩
end
section
variable {X : Cx} {K : PySem.W.Frag}
/-- a field, read in a comprehension's block -/
theorem pe_fldK {e : Expr} {ta : TE} {f : Str} {pos : Pos} (K : PySem.W.Frag) (hK : X.K = K) (he : PE X e ta) (hb : attributeBase e f X.env (eval e X.env) = eval e X.env) : PE X (.Attribute e f pos) (tFld K ta f) := by
  subst hK
  exact pe_fld he hb
end
end Rg
/-! placing.py: check_room, fitted, words_of; ops.py: first_word, short_take -/
namespace Rs
open PySem PySem.Spec PyProof.Rows L2 C8
section
variable {α β : Type} {f : α → Re β}
theorem mapE_cons {a : α} {r : List α} {ys : List β} (h : mapE f (a :: r) = .ok ys) : ∃ b bs, f a = .ok b ∧ mapE f r = .ok bs ∧ ys = b :: bs := by
  unfold mapE at h
  cases e : f a with
  | error z =>
    rw [e] at h
    cases h
  | ok b =>
    rw [e] at h
    cases e2 : mapE f r with
    | error z =>
      rw [e2] at h
      cases h
    | ok bs =>
      rw [e2] at h
      exact ⟨b, bs, rfl, rfl, (Except.ok.inj h).symm⟩
theorem mapE_al : ∀ {xs : List α} {ys : List β}, mapE f xs = .ok ys → Al (fun x y => f x = .ok y) xs ys
  | [], ys, h => by
    have : ys = [] := (Except.ok.inj h).symm
    subst this
    exact Al.nil
  | a :: r, ys, h => by
    obtain ⟨b, bs, e1, e2, rfl⟩ := mapE_cons h
    have ih := mapE_al e2
    refine ⟨by rw [List.length_cons, List.length_cons, ih.1], fun i x y h1 h2 => ?_⟩
    cases i with
    | zero =>
      cases h1
      cases h2
      exact e1
    | succ n => exact ih.2 n x y h1 h2
end
section
variable {P : Program} {w : World} {K : PySem.W.Frag} {mg : Str → Option Value} {base : Heap} {C : Addr}
def spFirst : Sp := fun vs H Q _ => ∃ (k : Kd) (b : Addr) (bs : List Int), vs = [.str k.str, .ref b] ∧ k ≠ .take ∧ H b = some (.lst (bs.map V.int)) ∧ Q (.int (firstW k.str bs)) H
theorem firstW_code {c : Code} (h : c ∈ codes) (bs : List Int) : firstW c.1.str bs = c.2.1 + bs.foldl (fun w b => 4 * w + b) 0 := by
  unfold firstW
  have key : ∀ c ∈ codes, baseW c.1.str = c.2.1 := by decide +kernel
  rw [key c h]
theorem ok_first_word (D : DefAt K mg "first_word" sD_first_word) (T : Txt w K mg) : Cal P w K mg base 1 "first_word" spFirst [] := by
  refine cal_of D sc_first_word (fun _ _ _ _ _ _ us hl => match us, hl with | [_, _], _ => rfl) (fun vs H Q E h => ?_) (fun cdv A outer s H vs Q E hr h => ?_)
  · obtain ⟨k, b, bs, rfl, _⟩ := h
    rfl
  · obtain ⟨kd, b, bs, rfl, nk, hb, k⟩ := h
    refine ⟨_, (pss_cons (ps_set (i := 2) sc_first_word.nd rfl (Or.inl rfl) pe_int)
  (pss_cons (ps_for PassesOwn.never rfl (pi_list (pv 1)) (pg_name (i := 3) sc_first_word.nd rfl (Or.inl rfl))
   (pss_one (ps_set (i := 2) sc_first_word.nd rfl (Or.inl rfl) (pe_op op_add (pe_op op_mul pe_int (pv 2)) (pv 3)))))
  (pss_one (ps_ret (pe_op op_add (pe_ix ix_tup (pe_ix ix_kdict (pe_gR (by rfl) T.g_OPS) (pv 0) (fun _ _ => rfl)) pe_int (fun _ _ => rfl)) (pv 2)))))), ?_⟩
    refine ⟨_, rfl, b, rfl, ⟨_, SqL.of hb⟩, for_it (walk_list (K := K) (a := b) (xs := bs.map V.int)) (fun i σ H' => H' = H ∧ ∃ (n : Int) (x3 : Option V), σ = [some (.str kd.str), some (.ref b), some (.int n), x3] ∧ (bs.drop i).foldl (fun w b => 4 * w + b) n = bs.foldl (fun w b => 4 * w + b) 0) ⟨rfl, _, _, rfl, rfl⟩ (fun i σ H' _ ⟨z, _⟩ => by rw [z]; exact SqL.of hb) ?_ ?_⟩
    · rintro i v σ H1 H2 hi ⟨rfl, n, x3, rfl, e⟩ ⟨rfl, hv⟩
      obtain ⟨y, ey, rfl⟩ := map_at hv
      rw [drop_cons ey, List.foldl_cons] at e
      exact ⟨_, rfl, 4, n, rfl, rfl, .inl (by decide), _, rfl, _, _, rfl, rfl, rfl, _, _, rfl, e⟩
    · rintro σ H1 ⟨rfl, n, x3, rfl, e⟩
      rw [List.length_map, List.drop_length] at e
      obtain ⟨c, cm, rfl, ce⟩ := code_of kd nk
      obtain ⟨a, ha, hT⟩ := T.ops c cm
      refine ⟨_, rfl, _, _, _, rfl, rfl, ha, _, _, _, _, rfl, rfl, hT _, atI_nat (j := 0) rfl, _, rfl, _, _, rfl, rfl, ?_⟩
      have e2 : n = bs.foldl (fun w b => 4 * w + b) 0 := e
      rw [firstW_code cm] at k
      rw [e2]
      exact k
def spShort : Sp := fun vs H Q _ => ∃ b n : Int, vs = [.int b, .int n] ∧ Q (.int (144 + 8 * b + n)) H
theorem ok_short_take (D : DefAt K mg "short_take" sD_short_take) (T : Txt w K mg) : Cal P w K mg base 1 "short_take" spShort [] := by
  refine cal_of D sc_short_take (fun _ _ _ _ _ _ us hl => match us, hl with | [_, _], _ => rfl) (fun vs H Q E h => ?_) (fun cdv A outer s H vs Q E hr h => ?_)
  · obtain ⟨b, n, rfl, _⟩ := h
    rfl
  · obtain ⟨b, n, rfl, k⟩ := h
    refine ⟨_, (pss_one (ps_ret (pe_op op_add (pe_op op_add (pe_gI (by rfl) T.g_TAKE_FIRST) (pe_op op_mul (pe_gI (by rfl) T.g_TAKE_NUMBERS) (pv 0))) (pv 1)))), ?_⟩
    exact ⟨_, rfl, _, _, rfl, rfl, .inl (by decide), _, _, rfl, rfl, _, rfl, _, _, rfl, rfl, k⟩
def spRoom (C : Addr) : Sp := fun vs H Q _ => ∃ (r : Addr) (I : Hp) (xs : List Addr) (Rs : List Rm), vs = [.ref r] ∧ H r = some (.lst (xs.map V.ref)) ∧ RowsAt C I H xs Rs ∧ roomM Rs = .ok () ∧ Q .non H
theorem roomM_cons {R : Rm} {r : List Rm} (h : roomM (R :: r) = .ok ()) : ¬ (R.op = ("at" : Str) ∧ ¬ (R.place ≤ R.amount ∧ R.amount ≤ 256)) ∧ ¬ sizeM R < 0 ∧ ¬ R.place + sizeM R > 256 ∧ roomM r = .ok () := by
  unfold roomM at h
  by_cases q : (R.op = ("at" : Str) ∧ ¬ (R.place ≤ R.amount ∧ R.amount ≤ 256)) ∨ sizeM R < 0 ∨ R.place + sizeM R > 256
  · rw [if_pos q] at h
    cases h
  · rw [if_neg q] at h
    exact ⟨fun z => q (.inl z), fun z => q (.inr (.inl z)), fun z => q (.inr (.inr z)), h⟩
theorem ok_check_room (D : DefAt K mg "check_room" sD_check_room) (T : Txt w K mg) (MR : TxtR K C) (c_size_of : Cal P w K mg base 2 "size_of" (spSizeOf C) []) : Cal P w K mg base 3 "check_room" (spRoom C) [] := by
  refine cal_of D sc_check_room (fun _ _ _ _ _ _ us hl => match us, hl with | [_], _ => rfl) (fun vs H Q E h => ?_) (fun cdv A outer s H vs Q E hr h => ?_)
  · obtain ⟨r, I, xs, Rs, rfl, _⟩ := h
    rfl
  · obtain ⟨r, I, xs, Rs, rfl, hl, hR, hm, k⟩ := h
    refine ⟨_, (pss_one (ps_for PassesOwn.never rfl (pi_list (pv 0)) (pg_name (i := 1) sc_check_room.nd rfl (Or.inl rfl))
   (pss_cut (ps_if (PW.pt (pw_and (pt_cmpR op_eq (pe_fld (pv 1) rfl) pe_str (nomark _)) (pw_and1 (pt_not (pt_chain op_le op_le (pe_fld (pv 1) rfl) (pe_fld (pv 1) rfl) (pe_gI (by rfl) T.g_PLACES))))))
   (pss_one ps_never)
   pss_nil)
  (pss_one (ps_if (PW.pt (pw_or (pt_cmpR op_lt (pe_c c_size_of hr (by decide) (by rfl) (pa_cons (pv 1) pa_nil)) pe_int (nomark _)) (pw_or1 (pt_cmpR op_gt (pe_op op_add (pe_fld (pv 1) rfl) (pe_c c_size_of hr (by decide) (by rfl) (pa_cons (pv 1) pa_nil))) (pe_gI (by rfl) T.g_PLACES) (nomark _)))))
   (pss_one ps_never)
   pss_nil))))), ?_⟩
    refine ⟨_, rfl, r, rfl, ⟨_, SqL.of hl⟩, for_it (walk_list (K := K) (a := r) (xs := xs.map V.ref)) (fun i σ H' => H' = H ∧ ∃ (x1 : Option V), σ = [some (.ref r), x1] ∧ roomM (Rs.drop i) = .ok ()) ⟨rfl, _, rfl, hm⟩ (fun i σ H' _ ⟨z, _⟩ => by rw [z]; exact SqL.of hl) ?_ ?_⟩
    · rintro i v σ H1 H2 hi ⟨rfl, x1, rfl, e⟩ ⟨rfl, hv⟩
      obtain ⟨x, ex, rfl⟩ := map_at hv
      obtain ⟨R, dx, b, sa, t, eR, hx, hmm⟩ := hR.get ex
      have hnow := hR.now ex eR
      rw [drop_cons eR] at e
      obtain ⟨n1, n2, n3, e⟩ := roomM_cons e
      refine ⟨fun σ' H' => σ' = [some (.ref r), some (.ref x)] ∧ H' = H2, ?_, ?_⟩
      · refine ⟨_, rfl, x, C, dx, rfm R b sa t, _, rfl, hx, MR.cl, MR.op, rfl, rfl, _, rfl, ?_⟩
        by_cases q : R.op = ("at" : Str)
        · rw [decide_eq_true (congrArg V.str q)]
          have h2 : R.place ≤ R.amount ∧ R.amount ≤ 256 := Classical.byContradiction fun z => n1 ⟨q, z⟩
          refine iteT ⟨_, rfl, x, C, dx, rfm R b sa t, _, rfl, hx, MR.cl, MR.place, rfl, _, rfl, x, C, dx, rfm R b sa t, _, rfl, hx, MR.cl, MR.amount, rfl, _, _, rfl, rfl, _, rfl, ?_⟩
          rw [decide_eq_true h2.1]
          refine iteT ⟨_, _, rfl, rfl, _, rfl, ?_⟩
          rw [decide_eq_true h2.2]
          exact iteF ⟨rfl, rfl⟩
        · rw [decide_eq_false (fun z => q (V.str.inj z))]
          exact iteF (iteF ⟨rfl, rfl⟩)
      · rintro σ3 H3 ⟨rfl, rfl⟩
        refine ⟨_, rfl, x, R, rfl, hnow, _, _, rfl, rfl, _, rfl, ?_⟩
        rw [decide_eq_false n2]
        refine iteF ⟨_, rfl, x, C, dx, rfm R b sa t, _, rfl, hx, MR.cl, MR.place, rfl, _, rfl, x, R, rfl, hnow, _, _, rfl, rfl, _, _, rfl, rfl, _, rfl, ?_⟩
        rw [decide_eq_false n3]
        exact iteF ⟨rfl, _, rfl, e⟩
    · rintro σ H1 ⟨rfl, x1, rfl, e⟩
      exact k
def spFitted (C : Addr) : Sp := fun vs H Q _ => ∃ (x : Addr) (R : Rm) (n worth : Int), vs = [.ref x, .int worth] ∧ RowNow C H x R ∧ fitM R worth = .ok n ∧ Q (.int n) H
theorem ok_fitted (D : DefAt K mg "fitted" sD_fitted) (T : Txt w K mg) (MR : TxtR K C) (c_size_of : Cal P w K mg base 2 "size_of" (spSizeOf C) []) : Cal P w K mg base 3 "fitted" (spFitted C) [] := by
  refine cal_of D sc_fitted (fun _ _ _ _ _ _ us hl => match us, hl with | [_, _], _ => rfl) (fun vs H Q E h => ?_) (fun cdv A outer s H vs Q E hr h => ?_)
  · obtain ⟨x, R, n, worth, rfl, _⟩ := h
    rfl
  · obtain ⟨x, R, n, worth, rfl, hnow, hf, k⟩ := h
    have hnow2 := hnow
    obtain ⟨dx, b, sa, t, hx, hm⟩ := hnow
    refine ⟨_, (pss_cons (ps_par3 (i := 2) (j := 3) (l := 4) (by rfl) sc_fitted.nd rfl rfl rfl (by decide) (by decide) (by decide) rfl rfl rfl (pa_cons pe_int (pa_cons pe_int (pa_cons (pv 1) pa_nil))) (by rfl))
  (pss_cut (ps_if (pt_cmpR op_in_seq (pe_fld (pv 0) rfl) (pe_gR (by rfl) T.g_BELOW_NOUGHT) (by rfl))
   (pss_one (ps_set (i := 2) sc_fitted.nd rfl (Or.inl rfl) (pe_un un_neg pe_int)))
   pss_nil)
  (pss_cut (ps_if (pt_cmpR op_eq (pe_fld (pv 0) rfl) pe_str (nomark _))
   (pss_one (ps_par3 (i := 2) (j := 3) (l := 4) (by rfl) sc_fitted.nd rfl rfl rfl (by decide) (by decide) (by decide) rfl rfl rfl (pa_cons (pe_un un_neg pe_int) (pa_cons pe_int (pa_cons (pe_op op_sub (pe_op op_sub (pv 1) (pe_fld (pv 0) rfl)) (pe_c c_size_of hr (by decide) (by rfl) (pa_cons (pv 0) pa_nil))) pa_nil))) (by rfl)))
   pss_nil)
  (pss_cut (ps_if (pt_not (pt_chain op_le op_le (pv 2) (pv 4) (pv 3)))
   (pss_one ps_never)
   pss_nil)
  (pss_one (ps_ret (pe_op op_mod (pv 4) pe_int))))))), ?_⟩
    refine ⟨_, rfl, _, _, _, rfl, ?_⟩
    refine ⟨fun σ' H' => H' = H ∧ σ' = [some (.ref x), some (.int worth), some (.int (if R.op ∈ (["word", "take", "take!"] : List Str) then -128 else 0)), some (.int 255), some (.int worth)], ?_, ?_⟩
    · refine ⟨_, rfl, x, C, dx, rfm R b sa t, _, rfl, hx, MR.cl, MR.op, rfl, _, _, rfl, .inr (T.t_BELOW_NOUGHT _), rfl, rfl, _, rfl, ?_⟩
      rw [show (if (false : Bool) = true then !inV (V.str R.op) [.str "word", .str "take", .str "take!"] else inV (V.str R.op) [.str "word", .str "take", .str "take!"]) = decide (R.op ∈ (["word", "take", "take!"] : List Str)) from in_strs ["word", "take", "take!"]]
      by_cases q : R.op ∈ (["word", "take", "take!"] : List Str)
      · rw [decide_eq_true q, if_pos q]
        exact iteT ⟨_, rfl, rfl, rfl⟩
      · rw [decide_eq_false q, if_neg q]
        exact iteF ⟨rfl, rfl⟩
    rintro σ1 H1 ⟨rfl, rfl⟩
    refine ⟨fun σ' H' => H' = H1 ∧ ∃ l m v : Int, σ' = [some (.ref x), some (.int worth), some (.int l), some (.int m), some (.int v)] ∧ l ≤ v ∧ v ≤ m ∧ n = v % 256, ?_, ?_⟩
    · refine ⟨_, rfl, x, C, dx, rfm R b sa t, _, rfl, hx, MR.cl, MR.op, rfl, rfl, _, rfl, ?_⟩
      unfold fitM at hf
      by_cases q : R.op = ("skip" : Str)
      · rw [if_pos q] at hf
        rw [decide_eq_true (congrArg V.str q)]
        refine iteT ⟨_, rfl, _, rfl, _, rfl, x, C, dx, rfm R b sa t, _, rfl, hx, MR.cl, MR.place, rfl, _, _, rfl, rfl, _, rfl, x, R, rfl, hnow2, _, _, rfl, rfl, _, _, _, rfl, ?_⟩
        by_cases z : -128 ≤ worth - R.place - sizeM R ∧ worth - R.place - sizeM R ≤ 127
        · rw [if_pos z] at hf
          exact ⟨rfl, _, _, _, rfl, z.1, z.2, (Except.ok.inj hf).symm⟩
        · rw [if_neg z] at hf
          cases hf
      · rw [if_neg q] at hf
        rw [decide_eq_false (fun z => q (V.str.inj z))]
        by_cases z : (if R.op ∈ (["word", "take", "take!"] : List Str) then -128 else 0) ≤ worth ∧ worth ≤ 255
        · rw [if_pos z] at hf
          exact iteF ⟨rfl, _, _, _, rfl, z.1, z.2, (Except.ok.inj hf).symm⟩
        · rw [if_neg z] at hf
          cases hf
    rintro σ1 H2 ⟨rfl, l, m, v, rfl, h1, h2, rfl⟩
    refine ⟨fun σ' H' => H' = H2 ∧ σ' = [some (.ref x), some (.int worth), some (.int l), some (.int m), some (.int v)], ?_, ?_⟩
    · refine ⟨_, rfl, _, rfl, _, _, rfl, rfl, _, rfl, ?_⟩
      rw [decide_eq_true h1]
      refine iteT ⟨_, rfl, _, _, rfl, rfl, _, rfl, ?_⟩
      rw [decide_eq_true h2]
      exact iteF ⟨rfl, rfl⟩
    rintro σ1 H3 ⟨rfl, rfl⟩
    exact ⟨_, rfl, _, _, rfl, rfl, (by show (0 : Int) < 256; decide), k⟩
end
end Rs
/-! placing.py: words_of -/
namespace Rs
open PySem PySem.Spec PyProof.Rows L2 C8
theorem flat_rep (n : Nat) : (List.replicate n [(V.int 0)]).flatten = (List.replicate n (0 : Int)).map V.int := by
  induction n with
  | zero => rfl
  | succ n ih =>
    rw [List.replicate_succ, List.flatten_cons, ih, List.replicate_succ] <;> rfl
/-- what stands behind an op of the machine -/
theorem wf_op {R : Rm} (h : WfR R) (h0 : wordless R.op = false) (h1 : R.op ≠ ("room" : Str)) (h2 : R.op ≠ ("word" : Str)) (h3 : R.op ≠ ("take" : Str)) : ∃ k : Kd, k.str = R.op ∧ k ≠ .take := by
  obtain ⟨k, e, _⟩ := shape_kd h h0 h1 h2
  exact ⟨k, e, fun z => h3 (by rw [← e, z] <;> rfl)⟩
section
variable {P : Program} {w : World} {K : PySem.W.Frag} {mg : Str → Option Value} {base : Heap} {C : Addr}
def spWordsOf (C : Addr) : Sp := fun vs H Q _ => ∃ (x d : Addr) (R : Rm) (m : List (Str × Int)) (ws : List Int), vs = [.ref x, .ref d] ∧ RowNow C H x R ∧ H d = some (.dK (kv V.int m)) ∧ (∀ L ∈ R.sums, KnownL m L) ∧ wordsM m R = .ok ws ∧ (R.op = ("room" : Str) → 0 ≤ R.amount ∧ R.amount ≤ 256) ∧
  ∀ (H' : Hp) (t : Addr), Same H H' → H' t = some (.tup (ws.map V.int)) → Q (.ref t) H'
theorem ok_words_of (D : DefAt K mg "words_of" sD_words_of) (T : Txt w K mg) (MR : TxtR K C) (c_worth_of : Cal P w K mg base 1 "worth_of" spWorthM []) (c_fitted : Cal P w K mg base 3 "fitted" (spFitted C) []) (c_first_word : Cal P w K mg base 1 "first_word" spFirst []) (c_short_take : Cal P w K mg base 1 "short_take" spShort []) : Cal P w K mg base 4 "words_of" (spWordsOf C) [] := by
  refine cal_of D sc_words_of (fun _ _ _ _ _ _ us hl => match us, hl with | [_, _], _ => rfl) (fun vs H Q E h => ?_) (fun cdv A outer s H vs Q E hr h => ?_)
  · obtain ⟨x, d, R, m, ws, rfl, _⟩ := h
    rfl
  · obtain ⟨x, d, R, m, ws, rfl, hnow, hd, hk, hw, ha, k⟩ := h
    have hnow2 := hnow
    obtain ⟨dx, b, sa, t, hx, hm⟩ := hnow
    refine ⟨_, (pss_cons (ps_if (pt_cmpR op_in_seq (pe_fld (pv 0) rfl) (pe_gR (by rfl) T.g_WORDLESS) (by rfl))
   (pss_one (ps_ret (pe_tup pa_nil)))
   pss_nil)
  (pss_cons (ps_if (pt_cmpR op_eq (pe_fld (pv 0) rfl) pe_str (nomark _))
   (pss_one (ps_ret (pe_op Rg.op_repA (pe_tup (pa_cons pe_int pa_nil)) (pe_fld (pv 0) rfl))))
   pss_nil)
  (pss_cons (ps_setLc (i := 2) (own := [("parts", 4)]) (g := gName 4) (by rfl) sc_words_of.nd rfl rfl (sw_true rfl rfl rfl (by decide +kernel)) (pi_list (pe_fld (pv 0) rfl)) (blkOk_by (own := [("parts", 4)]) (N := N_words_of) (sc := defScope sD_words_of) (by decide +kernel)) (fun _ _ _ _ _ => (pg_name (i := 4) sc_words_of.nd rfl (Or.inl rfl))) (fun _ _ _ _ _ => pts_nil) (fun _ _ _ _ _ => (pe_c c_fitted hr (by decide) (by rfl) (pa_cons (pv 0) (pa_cons (pe_c c_worth_of hr (by decide) (by rfl) (pa_cons (pv 4) (pa_cons (Rg.pe_fldK K rfl (pv 0) rfl) (pa_cons (pv 1) pa_nil)))) pa_nil)))))
  (pss_cons (ps_if (pt_cmpR op_eq (pe_fld (pv 0) rfl) pe_str (nomark _))
   (pss_one (ps_ret (pe_callTy call_tuple_of (by rfl) T.free_tuple (by decide +kernel) (pa_cons (pv 2) pa_nil))))
   pss_nil)
  (pss_cons (ps_if (PW.pt (pw_and (pt_cmpR op_eq (pe_fld (pv 0) rfl) pe_str (nomark _)) (pw_and1 (pt_not (pt_val (pe_fld (pv 0) rfl))))))
   (pss_one (ps_ret (pe_tup (pa_cons (pe_c c_short_take hr (by decide) (by rfl) (pa_cons (pe_ix ix_list (pe_fld (pv 0) rfl) pe_int (fun _ _ => rfl)) (pa_cons (pe_ix ix_list (pv 2) pe_int (fun _ _ => rfl)) pa_nil))) pa_nil))))
   pss_nil)
  (pss_cut (ps_set (i := 3) sc_words_of.nd rfl (Or.inl rfl) (pe_ifExp (pt_cmpR op_eq (pe_fld (pv 0) rfl) pe_str (nomark _)) pe_str (pe_fld (pv 0) rfl)))
  (pss_one (ps_ret (pe_tup (pa_cons (pe_c c_first_word hr (by decide) (by rfl) (pa_cons (pv 3) (pa_cons (pe_fld (pv 0) rfl) pa_nil))) (StX.pa_star (pv 2) pa_nil))))))))))), ?_⟩
    unfold wordsM at hw
    refine ⟨_, rfl, x, C, dx, rfm R b sa t, _, rfl, hx, MR.cl, MR.op, rfl, _, _, rfl, .inr (T.t_WORDLESS _), rfl, rfl, _, rfl, ?_⟩
    rw [show (if (false : Bool) = true then !inV (V.str R.op) [.str "", .str "is", .str "at"] else inV (V.str R.op) [.str "", .str "is", .str "at"]) = wordless R.op from in_strs ["", "is", "at"]]
    cases e : wordless R.op with
    | true =>
      rw [if_pos e] at hw
      have : ws = [] := (Except.ok.inj hw).symm
      subst this
      exact iteT ⟨Nat.zero_le _, fun p hp => k _ p (Same.new hp) upd_same⟩
    | false =>
      rw [if_neg (by rw [e]; decide)] at hw
      refine iteF ⟨_, rfl, x, C, dx, rfm R b sa t, _, rfl, hx, MR.cl, MR.op, rfl, rfl, _, rfl, ?_⟩
      by_cases q1 : R.op = ("room" : Str)
      · rw [if_pos q1] at hw
        rw [decide_eq_true (congrArg V.str q1)]
        have e2 : ws = List.replicate R.amount.toNat 0 := (Except.ok.inj hw).symm
        subst e2
        obtain ⟨a0, a1⟩ := ha q1
        refine iteT ⟨(by show 1 ≤ sizeLine; decide), fun p hp => ⟨_, rfl, x, C, dx, rfm R b sa t, _, rfl, (upd_ne (ne_of_none hx hp)).trans hx, MR.cl, MR.amount, rfl, p, R.amount, [.int 0], rfl, rfl, SqT.of upd_same, (by simp), (by omega), (by omega), (by show 1 ≤ 1000; decide), fun z => ?_, fun z q hq => ?_⟩⟩
        · refine k _ p (Same.new hp) ?_
          rw [z]
          exact upd_same
        · refine k _ q ((Same.new hp).add hq) ?_
          rw [upd_same, flat_rep]
      rw [if_neg q1] at hw
      rw [decide_eq_false (fun z => q1 (V.str.inj z))]
      cases en : mapE (fun L => fitM R (worthM m R.place L)) R.sums with
      | error z =>
        rw [en] at hw
        cases hw
      | ok ns =>
        rw [en] at hw
        have hal := mapE_al en
        obtain ⟨ts, g1, g2⟩ := hm.s
        refine iteF ⟨_, rfl, x, C, dx, rfm R b sa t, _, rfl, hx, MR.cl, MR.sums, rfl, sa, rfl, ⟨_, SqL.of g1⟩, fun Dl hD => ?_⟩
        refine lc_list (K := K) (a := sa) (xs := ts.map V.ref) (fun i H' => Same H H' ∧ H' Dl = some (.lst ((ns.take i).map V.int))) ⟨Same.new hD, upd_same⟩ (fun i H' _ ⟨z, _⟩ => SqL.of (z _ _ g1)) ?_ ?_
        · rintro i v H3 hv ⟨s3, h3⟩
          obtain ⟨u, eu, rfl⟩ := map_at hv
          have hi : i < R.sums.length := by
            rw [← g2.1]
            exact (List.getElem?_eq_some_iff.mp eu).1
          have eL := List.getElem?_eq_getElem hi
          have mL := List.getElem_mem hi
          obtain ⟨n, e1, e2⟩ := hal.get eL
          generalize R.sums[i] = L at eL mL e1 e2
          refine ⟨rfl, yesS (iteT ⟨_, rfl, _, rfl, _, rfl, x, C, dx, rfm R b sa t, _, rfl, s3 _ _ hx, MR.cl, MR.place, rfl, _, rfl, u, d, R.place, L, m, rfl, (g2.2 i u L eu eL).mono s3, s3 _ _ hd, hm.sg L mL, hk L mL, x, R, n, worthM m R.place L, rfl, ⟨dx, b, sa, t, s3 _ _ hx, hm.same s3⟩, e2, ?_⟩)⟩
          refine ⟨_, h3, ?_, s3.putNew hD, ?_⟩
          · rw [List.length_map, List.length_take, ← hal.1]
            have := hm.few
            exact Nat.lt_of_le_of_lt (show min i R.sums.length ≤ 100000 by omega) (by decide)
          · rw [upd_same, take_snoc e1, List.map_append] <;> rfl
        rintro H3 ⟨s3, h3⟩
        have hl3 : (ts.map V.ref).length = ns.length := by rw [List.length_map, g2.1, hal.1]
        rw [hl3, List.take_length] at h3
        have x3 := s3 _ _ hx
        have m3 := hm.same s3
        refine ⟨_, rfl, x, C, dx, rfm R b sa t, _, rfl, x3, MR.cl, MR.op, rfl, rfl, _, rfl, ?_⟩
        have hw : (if R.op = ("word" : Str) then (Except.ok ns : Re (List Int)) else if R.op = ("take" : Str) ∧ R.long = false then .ok [144 + 8 * R.boxes.headD 0 + ns.headD 0] else .ok (firstW (if R.op = ("take" : Str) then "take!" else R.op) R.boxes :: ns)) = .ok ws := hw
        by_cases q2 : R.op = ("word" : Str)
        · rw [if_pos q2] at hw
          rw [decide_eq_true (congrArg V.str q2)]
          cases hw
          exact iteT ⟨_, rfl, Dl, _, rfl, .inl ⟨SqL.of h3, fun q hq => k _ q (s3.add hq) upd_same⟩⟩
        rw [if_neg q2] at hw
        rw [decide_eq_false (fun z => q2 (V.str.inj z))]
        refine iteF ⟨_, rfl, x, C, dx, rfm R b sa t, _, rfl, x3, MR.cl, MR.op, rfl, rfl, _, rfl, ?_⟩
        by_cases q3 : R.op = ("take" : Str)
        · rw [decide_eq_true (congrArg V.str q3)]
          obtain ⟨w1, w2⟩ := wf_take hm.wf q3
          refine iteT ⟨_, rfl, x, C, dx, rfm R b sa t, _, rfl, x3, MR.cl, MR.long, rfl, _, rfl, ?_⟩
          cases el : R.long with
          | false =>
            rw [if_pos ⟨q3, el⟩] at hw
            cases hw
            have eb : R.boxes = [R.boxes.headD 0] := by
              cases eb : R.boxes with
              | nil =>
                rw [eb] at w1
                cases w1
              | cons y r =>
                rw [eb] at w1
                have : r = [] := List.eq_nil_of_length_eq_zero (by simpa using w1)
                rw [this] <;> rfl
            have eN : ns = [ns.headD 0] := by
              have w3 : ns.length = 1 := by rw [← hal.1, w2]
              cases eN : ns with
              | nil =>
                rw [eN] at w3
                cases w3
              | cons y r =>
                rw [eN] at w3
                have : r = [] := List.eq_nil_of_length_eq_zero (by simpa using w3)
                rw [this] <;> rfl
            have b3 := m3.b
            rw [eb] at b3
            rw [eN] at h3
            exact iteT ⟨_, rfl, x, C, dx, rfm R b sa t, _, rfl, x3, MR.cl, MR.boxes, rfl, b, _, _, _, rfl, rfl, SqL.of b3, atI_nat (j := 0) rfl, _, rfl, Dl, _, _, _, rfl, rfl, SqL.of h3, atI_nat (j := 0) rfl, R.boxes.headD 0, ns.headD 0, rfl, (by show 1 ≤ sizeLine; decide), fun q hq => k _ q (s3.add hq) upd_same⟩
          | true =>
            rw [if_neg (fun z => by rw [el] at z; cases z.2), if_pos q3] at hw
            cases hw
            refine iteF ⟨fun σ' H' => H' = H3 ∧ ∃ x4, σ' = [some (.ref x), some (.ref d), some (.ref Dl), some (.str "take!"), x4], ?_, ?_⟩
            · refine ⟨_, rfl, x, C, dx, rfm R b sa t, _, rfl, x3, MR.cl, MR.op, rfl, rfl, _, rfl, ?_⟩
              rw [decide_eq_true (congrArg V.str q3)]
              exact iteT ⟨rfl, _, rfl⟩
            · rintro σ4 H4 ⟨rfl, x4, rfl⟩
              refine ⟨_, rfl, _, rfl, x, C, dx, rfm R b sa t, _, rfl, x3, MR.cl, MR.boxes, rfl, .takeL, b, R.boxes, rfl, (by decide), m3.b, _, rfl, Dl, _, rfl, .inr (SqL.of h3), ?_, fun q hq => k _ q (s3.add hq) ?_⟩
              · have := hm.few
                have := hal.1
                show (V.int (firstW Kd.takeL.str R.boxes) :: (ns.map V.int ++ [])).length ≤ sizeLine
                rw [List.append_nil, List.length_cons, List.length_map]
                exact Nat.le_trans (show ns.length + 1 ≤ 100001 by omega) (by decide)
              · rw [upd_same, List.append_nil] <;> rfl
        · rw [if_neg (fun z => q3 z.1), if_neg q3] at hw
          cases hw
          rw [decide_eq_false (fun z => q3 (V.str.inj z))]
          obtain ⟨kd, ek, nk⟩ := wf_op hm.wf e q1 q2 q3
          refine iteF (iteF ⟨fun σ' H' => H' = H3 ∧ ∃ x4, σ' = [some (.ref x), some (.ref d), some (.ref Dl), some (.str R.op), x4], ?_, ?_⟩)
          · refine ⟨_, rfl, x, C, dx, rfm R b sa t, _, rfl, x3, MR.cl, MR.op, rfl, rfl, _, rfl, ?_⟩
            rw [decide_eq_false (fun z => q3 (V.str.inj z))]
            exact iteF ⟨_, rfl, x, C, dx, rfm R b sa t, _, rfl, x3, MR.cl, MR.op, rfl, rfl, _, rfl⟩
          · rintro σ4 H4 ⟨rfl, x4, rfl⟩
            rw [← ek] at k ⊢
            refine ⟨_, rfl, _, rfl, x, C, dx, rfm R b sa t, _, rfl, x3, MR.cl, MR.boxes, rfl, kd, b, R.boxes, rfl, nk, m3.b, _, rfl, Dl, _, rfl, .inr (SqL.of h3), ?_, fun q hq => k _ q (s3.add hq) ?_⟩
            · have := hm.few
              have := hal.1
              show (V.int (firstW kd.str R.boxes) :: (ns.map V.int ++ [])).length ≤ sizeLine
              rw [List.append_nil, List.length_cons, List.length_map]
              exact Nat.le_trans (show ns.length + 1 ≤ 100001 by omega) (by decide)
            · rw [upd_same, List.append_nil] <;> rfl
end
end Rs
/-! naming.py: names_in -/
namespace Rs
open PySem PySem.Spec PyProof.Rows L2 C8
section
variable {P : Program} {w : World} {K : PySem.W.Frag} {mg : Str → Option Value} {base : Heap} {C : Addr}
def spNamesIn : Sp := fun vs H Q _ => ∃ (t : Addr) (L : List Pp), vs = [.ref t] ∧ SmAt H t L ∧ L.length ≤ 100000 ∧ ∀ (H' : Hp) (p : Addr), Same H H' → H p = none → H' p = some (.lst ((namesIn L).map V.str)) → Q (.ref p) H'
theorem ok_names_in (D : DefAt K mg "names_in" sD_names_in) (T : Txt w K mg) : Cal P w K mg base 1 "names_in" spNamesIn [] := by
  refine cal_of D sc_names_in (fun _ _ _ _ _ _ us hl => match us, hl with | [_], _ => rfl) (fun vs H Q E h => ?_) (fun cdv A outer s H vs Q E hr h => ?_)
  · obtain ⟨t, L, rfl, _⟩ := h
    rfl
  · obtain ⟨t, L, rfl, ⟨us, ht, hL⟩, hz, k⟩ := h
    refine ⟨_, (pss_one (ps_ret (pe_lc (own := [("sign", 1), ("part", 2)]) (g := gTup K 2 (gCons (gName 1) (gCons (gName 2) gNil))) (by rfl) sc_names_in.nd (pi_tup (pv 0)) (blkOk_by (own := [("sign", 1), ("part", 2)]) (N := N_names_in) (sc := defScope sD_names_in) (by decide +kernel)) (fun _ _ _ _ _ => (pg_tup rfl (pgs_cons (pg_name (i := 1) sc_names_in.nd rfl (Or.inl rfl)) (pgs_cons (pg_name (i := 2) sc_names_in.nd rfl (Or.inl rfl)) pgs_nil)))) (fun _ _ _ _ _ => (pts_one (pt_val (pe_callB (r := rIsi K) call_isi (by rfl) T.free_isinstance (by decide +kernel) (pa_cons (pv 2) (pa_cons (pe_bltn (by rfl) T.free_str (by decide +kernel) (v := .ty "str") rfl) pa_nil)))))) (fun _ _ _ _ _ => (pv 2))))), ?_⟩
    refine ⟨_, rfl, t, rfl, ⟨_, SqT.of ht⟩, fun Dl hD => ?_⟩
    refine lc_tup (K := K) (a := t) (xs := us.map V.ref) (fun i H' => Same H H' ∧ H' Dl = some (.lst ((namesIn (L.take i)).map V.str))) ⟨Same.new hD, upd_same⟩ (fun i H' _ ⟨z, _⟩ => SqT.of (z _ _ ht)) ?_ ?_
    · rintro i v H3 hv ⟨s3, h3⟩
      obtain ⟨u, eu, rfl⟩ := map_at hv
      have hi : i < L.length := by
        rw [← hL.1]
        exact (List.getElem?_eq_some_iff.mp eu).1
      have eL := List.getElem?_eq_getElem hi
      have hu := hL.2 i u _ eu eL
      generalize L[i] = e at eL hu
      obtain ⟨sg, ky⟩ := e
      have et : namesIn (L.take (i + 1)) = namesIn (L.take i) ++ namesIn [(sg, ky)] := by
        rw [take_snoc eL]
        unfold namesIn
        rw [List.filterMap_append]
      refine ⟨u, _, rfl, SqT.of (s3 _ _ hu), rfl, _, _, rfl, _, _, rfl, rfl, rfl, ?_⟩
      cases ky with
      | inl n =>
        refine ⟨_, rfl, _, _, _, _, false, rfl, .ty _, .base (.int _), kit_ty (by decide +kernel), false, rfl, iteF ⟨s3, ?_⟩⟩
        rw [h3, et]
        show _ = some (HO.lst ((namesIn (L.take i) ++ []).map V.str))
        rw [List.append_nil]
      | inr n =>
        refine ⟨_, rfl, _, _, _, _, true, rfl, .ty _, .base (.str _), kit_ty (by decide +kernel), true, rfl, iteT ⟨_, rfl, _, h3, ?_, s3.putNew hD, ?_⟩⟩
        · rw [List.length_map]
          refine Nat.lt_of_le_of_lt (Nat.le_trans (List.length_filterMap_le _ _) ?_) (show 100000 < sizeLine by decide)
          rw [List.length_take]
          omega
        · rw [upd_same, et, List.map_append] <;> rfl
    · rintro H3 ⟨s3, h3⟩
      rw [List.length_map, hL.1, List.take_length] at h3
      exact k _ Dl s3 hD h3
end
end Rs
/-! elements of a generator expression over a list: x in y, x == 'k' or x in y; y a captured name that holds a dict -/
namespace Rg
open PySem PySem.Spec PyProof.Rows L2
section
variable {X : Cx} {σ : L2.St} {H : Hp}
/-- x in y: what evaluates it -/
theorem in_cell {scope : Scope} {x y : Str} {p1 p2 p4 : Pos} {d : Addr} {kvs : List (L2.Key × V)} {k : L2.Key} {cenv : Env} {A' : Around} {E' : Value → Shared → Prop} {v : Value} {s₂ : Shared} {m₂ : Str → Option Value} {c : Addr} {R : Value → Shared → Prop}
    (hs : cenv.scope = scope) (hok : HOk X.prog X.w H s₂.heap) (hk : scope.kind = .function) (hl : scope.names.lookup x = some .local) (hfl : scope.names.lookup y = some .free) (hcl : cenv.cells.lookup y = some c) (hcell : s₂.heap.IsCell c (some (.ref d)))
    (hd : H d = some (.dK kvs)) (rz : RelV (kV k) v) (hn : s₂.heap.Ns cenv.locals m₂) (hm : m₂ x = some v) (hR : ∀ t, R (.bool (valV kvs k).isSome) { s₂ with toks := t })
    (d1 : (x == ("__debug__" : Str)) = false := by decide) (d2 : (y == ("__debug__" : Str)) = false := by decide) (d3 : (y == ("__classdict__" : Str)) = false := by decide) :
    wpAny (model X.prog X.w) A' (eval (.Compare (.Name x p1) [.In] [.Name y p2] p4) cenv) R E' s₂ := by
  refine wpAny_Compare1 ?_
  refine wpAny_Name (wpAny_loadName_local (by rw [hs]; exact hk) (show cenv.scope.names.lookup x = some .local by rw [hs]; exact hl) hn hm ?_) d1
  refine wpAny_Name (wpAny_loadName_free (by rw [hs]; exact hk) (show cenv.scope.names.lookup y = some .free by rw [hs]; exact hfl) hcl hcell ?_ d3) d2
  obtain ⟨_, hsys, vs, rel, dd⟩ := dk_of hok hd
  refine wpAny_in_of (kV_is rz) hsys dd.mapOf ?_
  rw [← (rel.val k).isSome_eq]
  exact hR _
theorem elt_inCell {scope : Scope} {x y : Str} {p1 p2 p4 : Pos} {xs : List V} {j : Nat} {d : Addr} {kvs : List (L2.Key × V)} {ks : List L2.Key}
    (hk : scope.kind = .function) (hl : scope.names.lookup x = some .local) (hf : (y, NameKind.free) ∈ scope.names) (hfl : scope.names.lookup y = some .free) (hc : X.env.scope.names.lookup y = some .cell) (hN : X.N[j]? = some y) (hσ : σ[j]? = some (some (.ref d)))
    (hd : H d = some (.dK kvs)) (hxs : xs = ks.map kV) (d1 : (x == ("__debug__" : Str)) = false := by decide) (d2 : (y == ("__debug__" : Str)) = false := by decide) (d3 : (y == ("__classdict__" : Str)) = false := by decide) :
    EltL X σ H scope x (.Compare (.Name x p1) [.In] [.Name y p2] p4) xs (inAt kvs ks) := by
  subst hxs
  intro cenv A' E' i z v s₂ m₂ hs hok kin cap hz rz hn hm
  obtain ⟨uv, c, ru, hcl, hcell⟩ := cap j y _ hN hσ hc hf
  obtain rfl : uv = Value.ref d := ru
  rw [List.getElem?_map] at hz
  cases ek : ks[i]? with
  | none =>
    rw [ek] at hz
    cases hz
  | some k =>
    rw [ek] at hz
    cases hz
    refine in_cell hs hok hk hl hfl hcl hcell hd rz hn hm (fun t => ⟨?_, _, _, rfl, fun b o e => e⟩) d1 d2 d3
    unfold inAt
    rw [ek]
/-- .. or the i-th text is a -/
def orIn (a : Str) (kvs : List (L2.Key × V)) (ks : List Str) (i : Nat) : Bool := match ks[i]? with
  | some k => decide (k = a) || (valV kvs (Sum.inr k)).isSome
  | none => false
theorem elt_orIn {scope : Scope} {x y a : Str} {p1 p2 p3 p4 p5 p6 p7 : Pos} {jj : Nat} {xs : List V} {j : Nat} {d : Addr} {kvs : List (L2.Key × V)} {ks : List Str}
    (hk : scope.kind = .function) (hl : scope.names.lookup x = some .local) (hf : (y, NameKind.free) ∈ scope.names) (hfl : scope.names.lookup y = some .free) (hc : X.env.scope.names.lookup y = some .cell) (hN : X.N[j]? = some y) (hσ : σ[j]? = some (some (.ref d)))
    (hd : H d = some (.dK kvs)) (hxs : xs = ks.map V.str) (d1 : (x == ("__debug__" : Str)) = false := by decide) (d2 : (y == ("__debug__" : Str)) = false := by decide) (d3 : (y == ("__classdict__" : Str)) = false := by decide) :
    EltL X σ H scope x (.BoolOp .Or [.Compare (.Name x p1) [.Eq] [.Constant (.str a) jj p2] p3, .Compare (.Name x p4) [.In] [.Name y p5] p6] p7) xs (orIn a kvs ks) := by
  subst hxs
  intro cenv A' E' i z v s₂ m₂ hs hok kin cap hz rz hn hm
  obtain ⟨uv, c, ru, hcl, hcell⟩ := cap j y _ hN hσ hc hf
  obtain rfl : uv = Value.ref d := ru
  rw [List.getElem?_map] at hz
  cases ek : ks[i]? with
  | none =>
    rw [ek] at hz
    cases hz
  | some k =>
    rw [ek] at hz
    cases hz
    obtain ⟨t, rfl⟩ := rz
    have ho : orIn a kvs ks i = (decide (k = a) || (valV kvs (Sum.inr k)).isSome) := by
      unfold orIn
      rw [ek]
    rw [ho]
    refine wpAny_Or2 (wpAny_Compare1 ?_)
    refine wpAny_Name (wpAny_loadName_local (by rw [hs]; exact hk) (show cenv.scope.names.lookup x = some .local by rw [hs]; exact hl) hn hm ?_) d1
    refine Calls.Constant_str ?_
    refine PyProof.Rows.eq_str ?_
    refine wpAny_truthy_bool ?_
    have eb : (k == a) = decide (k = a) := by
      by_cases q : k = a
      · rw [decide_eq_true q]
        exact beq_iff_eq.mpr q
      · rw [decide_eq_false q]
        exact beq_eq_false_iff_ne.mpr q
    rw [eb]
    cases e : decide (k = a) with
    | true =>
      refine ite_tt ⟨?_, GxR.keeps_tok _ _⟩
      rw [Bool.true_or]
    | false =>
      refine ite_ff ?_
      rw [Bool.false_or]
      exact in_cell (k := Sum.inr k) hs hok hk hl hfl hcl hcell hd ⟨t, rfl⟩ hn hm (fun t => ⟨rfl, _, _, rfl, fun b o e => e⟩) d1 d2 d3
end
end Rg
/-! naming.py: is_known, is_early, check_given, check_known -/
namespace Rs
open PySem PySem.Spec PyProof.Rows L2 C8
theorem range_all {α : Type} (f : α → Bool) (l : List α) : (List.range l.length).all (fun i => match l[i]? with | some k => f k | none => false) = l.all f := by
  rw [Bool.eq_iff_iff, List.all_eq_true, List.all_eq_true]
  constructor
  · intro h x hx
    obtain ⟨i, hi, rfl⟩ := List.mem_iff_getElem.mp hx
    have := h i (List.mem_range.mpr hi)
    rw [List.getElem?_eq_getElem hi] at this
    exact this
  · intro h i hi
    have hi := List.mem_range.mp hi
    rw [List.getElem?_eq_getElem hi]
    exact h _ (List.getElem_mem hi)
theorem range_any {α : Type} (f : α → Bool) (l : List α) : (List.range l.length).any (fun i => match l[i]? with | some k => f k | none => false) = l.any f := by
  rw [Bool.eq_iff_iff, List.any_eq_true, List.any_eq_true]
  constructor
  · rintro ⟨i, hi, h⟩
    have hi := List.mem_range.mp hi
    rw [List.getElem?_eq_getElem hi] at h
    exact ⟨_, List.getElem_mem hi, h⟩
  · rintro ⟨x, hx, h⟩
    obtain ⟨i, hi, rfl⟩ := List.mem_iff_getElem.mp hx
    refine ⟨i, List.mem_range.mpr hi, ?_⟩
    rw [List.getElem?_eq_getElem hi]
    exact h
/-- a dict whose keys are these -/
def gd (g : List Str) : List (Key × V) := g.map fun n => (Sum.inr n, V.bl true)
theorem gd_some (n : Str) : ∀ g : List Str, (valV (gd g) (Sum.inr n)).isSome = decide (n ∈ g)
  | [] => by simp [gd, valV_nil]
  | a :: r => by
    have ih := gd_some n r
    by_cases q : a = n
    · rw [show gd (a :: r) = (Sum.inr a, V.bl true) :: gd r from rfl, valV_pos (congrArg Sum.inr q), decide_eq_true (by rw [q]; exact List.mem_cons_self)] <;> rfl
    · rw [show gd (a :: r) = (Sum.inr a, V.bl true) :: gd r from rfl, valV_neg (fun z => q (Sum.inr.inj z)), ih]
      exact decide_eq_decide.mpr ⟨fun h => List.mem_cons_of_mem _ h, fun h => (List.mem_cons.mp h).resolve_left (Ne.symm q)⟩
theorem gd_put {n : Str} {g : List Str} (h : n ∉ g) : putK (gd g) (Sum.inr n) (V.bl true) = gd (g ++ [n]) := by
  unfold putK
  rw [if_neg]
  · unfold gd
    rw [List.map_append] <;> rfl
  · rw [valV_any, gd_some, decide_eq_false h]
    decide
section
variable {P : Program} {w : World} {K : PySem.W.Frag} {mg : Str → Option Value} {base : Heap} {C : Addr}
def spKnown (K : PySem.W.Frag) : Sp := fun vs H Q _ => ∃ (t d : Addr) (L : List Pp) (g : List Str), vs = [.ref t, .ref d] ∧ SmAt H t L ∧ SgOk L ∧ H d = some (.dK (gd g)) ∧ Tabs K H ∧ ∀ H', Same H H' → Q (.bl (isKnownM g L)) H'
theorem ok_is_known (D : DefAt K mg "is_known" sD_is_known) (T : Txt w K mg) (TB : Rg.TabB base mg (He.codeOf K ("is_known", none)) (tabAt K "is_known")) (c_names_in : Cal P w K mg base 1 "names_in" spNamesIn []) : Cal P w K mg base 2 "is_known" (spKnown K) [] := by
  refine calT_of D sc_is_known (fun _ _ _ _ _ _ us hl => match us, hl with | [_, _], _ => rfl) (fun vs H Q E h => ?_) (fun Ar outer s H vs Q E hr h => ?_)
  · obtain ⟨t, d, L, g, rfl, _⟩ := h
    rfl
  · obtain ⟨t, d, L, g, rfl, hS, hg, hd, hT, k⟩ := h
    have hcd : (cxOf L2.CX0 P w K mg base N_is_known "is_known" (defScope sD_is_known) (He.ga K "is_known") (.ref (He.codeOf K ("is_known", none))) Ar outer s H E).nox.env.code = .ref (He.codeOf K ("is_known", none)) := rfl
    refine ⟨_, (pss_one (ps_ret (Rg.pe_allL hr (by rfl) T.free_all (by decide +kernel) TB hcd (Rg.genT_by (sc := defScope sD_is_known) (by decide +kernel)) (pe_c c_names_in hr (by decide) (by rfl) (pa_cons (pv 0) pa_nil)) (fun _ => rfl)))), ?_⟩
    refine ⟨_, rfl, t, L, rfl, hS, Nat.le_trans hg.2 (by decide), fun H1 p s1 hp0 hp => ?_⟩
    refine ⟨p, _, _, rfl, SqL.of hp, s1 _ _ (hT _ (by decide)), Rg.elt_orIn (j := 1) (d := d) (kvs := gd g) (ks := namesIn L) rfl rfl (by decide) rfl rfl rfl rfl (s1 _ _ hd) rfl, ?_⟩
    rw [List.length_map]
    have e : (List.range (namesIn L).length).all (Rg.orIn ("here" : Str) (gd g) (namesIn L)) = isKnownM g L := by
      unfold isKnownM
      refine Eq.trans ?_ (range_all (fun n => decide (n = ("here" : Str)) || decide (n ∈ g)) (namesIn L))
      congr 1
      funext i
      unfold Rg.orIn
      cases (namesIn L)[i]? with
      | none => rfl
      | some n =>
        show (decide (n = ("here" : Str)) || (valV (gd g) (Sum.inr n)).isSome) = _
        rw [gd_some]
    rw [e]
    exact k H1 s1
def spEarly (K : PySem.W.Frag) : Sp := fun vs H Q _ => ∃ (t d : Addr) (L : List Pp) (m : List (Str × Int)), vs = [.ref t, .ref d] ∧ SmAt H t L ∧ SgOk L ∧ H d = some (.dK (kv V.int m)) ∧ Tabs K H ∧ ∀ H', Same H H' → Q (.bl (isEarlyM m L)) H'
theorem ok_is_early (D : DefAt K mg "is_early" sD_is_early) (T : Txt w K mg) (TB : Rg.TabB base mg (He.codeOf K ("is_early", none)) (tabAt K "is_early")) (c_names_in : Cal P w K mg base 1 "names_in" spNamesIn []) : Cal P w K mg base 2 "is_early" (spEarly K) [] := by
  refine calT_of D sc_is_early (fun _ _ _ _ _ _ us hl => match us, hl with | [_, _], _ => rfl) (fun vs H Q E h => ?_) (fun Ar outer s H vs Q E hr h => ?_)
  · obtain ⟨t, d, L, m, rfl, _⟩ := h
    rfl
  · obtain ⟨t, d, L, m, rfl, hS, hg, hd, hT, k⟩ := h
    have hcd : (cxOf L2.CX0 P w K mg base N_is_early "is_early" (defScope sD_is_early) (He.ga K "is_early") (.ref (He.codeOf K ("is_early", none))) Ar outer s H E).nox.env.code = .ref (He.codeOf K ("is_early", none)) := rfl
    refine ⟨_, (pss_one (ps_ret (Rg.pe_allL hr (by rfl) T.free_all (by decide +kernel) TB hcd (Rg.genT_by (sc := defScope sD_is_early) (by decide +kernel)) (pe_c c_names_in hr (by decide) (by rfl) (pa_cons (pv 0) pa_nil)) (fun _ => rfl)))), ?_⟩
    refine ⟨_, rfl, t, L, rfl, hS, Nat.le_trans hg.2 (by decide), fun H1 p s1 hp0 hp => ?_⟩
    refine ⟨p, _, _, rfl, SqL.of hp, s1 _ _ (hT _ (by decide)), Rg.elt_inCell (j := 1) (d := d) (kvs := kv V.int m) (ks := (namesIn L).map Sum.inr) rfl rfl (by decide) rfl rfl rfl rfl (s1 _ _ hd) (by rw [List.map_map]; rfl), ?_⟩
    rw [List.length_map]
    have e : (List.range (namesIn L).length).all (Rg.inAt (kv V.int m) ((namesIn L).map Sum.inr)) = isEarlyM m L := by
      unfold isEarlyM
      refine Eq.trans ?_ (range_all (fun n => (getL m n).isSome) (namesIn L))
      congr 1
      funext i
      unfold Rg.inAt
      rw [List.getElem?_map]
      cases (namesIn L)[i]? with
      | none => rfl
      | some n =>
        show (valV (kv V.int m) (Sum.inr n)).isSome = (getL m n).isSome
        rw [kv_get]
        cases getL m n <;> rfl
    rw [e]
    exact k H1 s1
def spGiven (C : Addr) : Sp := fun vs H Q _ => ∃ (r : Addr) (I : Hp) (xs : List Addr) (Rs : List Rm) (g : List Str), vs = [.ref r] ∧ H r = some (.lst (xs.map V.ref)) ∧ RowsAt C I H xs Rs ∧ Rs.length ≤ 1000 ∧ (∀ R ∈ Rs, R.label.length ≤ 200000 ∧ R.gives.length ≤ 200000) ∧ givenM Rs [] = .ok g ∧ ∀ (H' : Hp) (d : Addr), Same H H' → H d = none → H' d = some (.dK (gd g)) → Q (.ref d) H'
theorem giveM_ok {row : Int} {g g' : List Str} {n : Str} (h : giveM row g n = .ok g') : n ∉ g ∧ ((n = "" ∧ g' = g) ∨ (n ≠ "" ∧ g' = g ++ [n])) := by
  unfold giveM at h
  by_cases q : n ∈ g
  · rw [if_pos q] at h
    cases h
  · rw [if_neg q] at h
    refine ⟨q, ?_⟩
    by_cases z : n = ""
    · rw [if_pos z] at h
      exact .inl ⟨z, (Except.ok.inj h).symm⟩
    · rw [if_neg z] at h
      exact .inr ⟨z, (Except.ok.inj h).symm⟩
theorem givenM_cons {R : Rm} {r : List Rm} {g g' : List Str} (h : givenM (R :: r) g = .ok g') : ∃ g1 g2, giveM R.row g R.label = .ok g1 ∧ giveM R.row g1 R.gives = .ok g2 ∧ givenM r g2 = .ok g' := by
  unfold givenM at h
  cases e : giveM R.row g R.label with
  | error z =>
    rw [e] at h
    cases h
  | ok g1 =>
    rw [e] at h
    cases e2 : giveM R.row g1 R.gives with
    | error z =>
      simp only [e2] at h
      cases h
    | ok g2 =>
      simp only [e2] at h
      exact ⟨g1, g2, rfl, e2, h⟩
theorem str_truth (a : Str) : ((a.length : Int) != 0) = !decide (a = "") := by
  by_cases q : a = ""
  · rw [q, decide_eq_true rfl] <;> rfl
  · rw [own_truth q, decide_eq_false q] <;> rfl
theorem giveM_len {row : Int} {g g' : List Str} {n : Str} (h : giveM row g n = .ok g') : g'.length ≤ g.length + 1 := by
  obtain ⟨_, z | z⟩ := giveM_ok h
  · rw [z.2]
    omega
  · rw [z.2, List.length_append]
    exact Nat.le_refl _
theorem ok_check_given (D : DefAt K mg "check_given" sD_check_given) (T : Txt w K mg) (MR : TxtR K C) : Cal P w K mg base 1 "check_given" (spGiven C) [] := by
  refine cal_of D sc_check_given (fun _ _ _ _ _ _ us hl => match us, hl with | [_], _ => rfl) (fun vs H Q E h => ?_) (fun cdv A outer s H vs Q E hr h => ?_)
  · obtain ⟨r, I, xs, Rs, g, rfl, _⟩ := h
    rfl
  · obtain ⟨r, I, xs, Rs, g, rfl, hl, hR, hz, hz2, hg, k⟩ := h
    refine ⟨_, (pss_cons (ps_set (i := 1) sc_check_given.nd rfl (Or.inl rfl) pe_dnewK)
  (pss_cons (ps_for PassesOwn.never rfl (pi_list (pv 0)) (pg_name (i := 2) sc_check_given.nd rfl (Or.inl rfl))
   (pss_one (ps_for PassesOwn.never rfl (pi_tup (pe_tup (pa_cons (pe_fld (pv 2) rfl) (pa_cons (pe_fld (pv 2) rfl) pa_nil)))) (pg_name (i := 3) sc_check_given.nd rfl (Or.inl rfl))
   (pss_cons (ps_if (pt_cmp (pc_din (hu_of hr) (pv 3) (pv 1)))
   (pss_one ps_never)
   pss_nil)
  (pss_one (ps_if (pt_truth (pv 3) (by intro _; rfl))
   (pss_one (ps_dput (hu_of hr) (pv 1) (pv 3) pe_bl rfl))
   pss_nil))))))
  (pss_one (ps_ret (pv 1))))), ?_⟩
    intro d hd
    have ndr : r ≠ d := ne_of_none hl hd
    refine ⟨_, rfl, r, rfl, ⟨_, SqL.of ((upd_ne ndr).trans hl)⟩, for_it (walk_list (K := K) (a := r) (xs := xs.map V.ref)) (fun i σ H' => ∃ (gi : List Str) (x2 x3 : Option V), σ = [some (.ref r), some (.ref d), x2, x3] ∧ Same H H' ∧ H' d = some (.dK (gd gi)) ∧ gi.length ≤ 2 * i ∧ givenM (Rs.drop i) gi = .ok g) ⟨[], _, _, rfl, Same.new hd, upd_same, Nat.zero_le _, hg⟩ (fun i σ H' _ ⟨_, _, _, _, z, _⟩ => SqL.of (z _ _ hl)) ?_ ?_⟩
    · rintro i v σ H1 H2 hi ⟨gi, x2, x3, rfl, s1, h1, l1, e1⟩ ⟨rfl, hv⟩
      obtain ⟨x, ex, rfl⟩ := map_at hv
      obtain ⟨R, dx, b, sa, t, eR, hx, hm⟩ := hR.get ex
      rw [drop_cons eR] at e1
      obtain ⟨g1, g2, e2, e3, e4⟩ := givenM_cons e1
      have x1 := s1 _ _ hx
      have hzR := hz2 R (List.mem_of_getElem? eR)
      have hi2 : i < 1000 := by
        have := (List.getElem?_eq_some_iff.mp eR).1
        omega
      refine ⟨_, rfl, x, C, dx, rfm R b sa t, _, rfl, x1, MR.cl, MR.label, rfl, _, rfl, x, C, dx, rfm R b sa t, _, rfl, x1, MR.cl, MR.gives, rfl, (by show 2 ≤ sizeLine; decide), fun q hq => ?_⟩
      have s2 := s1.add (o := .tup [.str R.label, .str R.gives]) hq
      have d2 : upd H2 q (.tup [.str R.label, .str R.gives]) d = some (.dK (gd gi)) := (upd_ne (ne_of_none h1 hq)).trans h1
      have q2 : upd H2 q (.tup [.str R.label, .str R.gives]) q = some (.tup [.str R.label, .str R.gives]) := upd_same
      generalize upd H2 q (.tup [.str R.label, .str R.gives]) = H3 at s2 d2 q2 ⊢
      have nqd : q ≠ d := fun z => by
        rw [z, d2] at q2
        cases q2
      refine ⟨q, rfl, ⟨_, SqT.of q2⟩, for_it (walk_tup (K := K) (a := q) (xs := [.str R.label, .str R.gives])) (fun j σ H' => ∃ (gj : List Str) (x3 : Option V), σ = [some (.ref r), some (.ref d), some (.ref x), x3] ∧ Same H H' ∧ H' q = some (.tup [.str R.label, .str R.gives]) ∧ H' d = some (.dK (gd gj)) ∧ gj.length ≤ 2 * i + j ∧ gj = [gi, g1, g2].getD j []) ⟨gi, _, rfl, s2, q2, d2, l1, rfl⟩ (fun j σ H' _ ⟨_, _, _, _, z, _⟩ => SqT.of z) ?_ ?_⟩
      · rintro j v σ H4 H5 hj ⟨gj, x3, rfl, s4, q4, d4, l4, e⟩ ⟨rfl, hv⟩
        obtain ⟨n, go, hn, rfl, hgo, hgj⟩ : ∃ (n : Str) (go : List Str), n.length ≤ 200000 ∧ v = .str n ∧ giveM R.row gj n = .ok go ∧ go = [gi, g1, g2].getD (j + 1) [] := by
          cases j with
          | zero =>
            cases hv
            have e' : gj = gi := e
            rw [e']
            exact ⟨R.label, g1, hzR.1, rfl, e2, rfl⟩
          | succ j =>
            cases j with
            | zero =>
              cases hv
              have e' : gj = g1 := e
              rw [e']
              exact ⟨R.gives, g2, hzR.2, rfl, e3, rfl⟩
            | succ j => exact absurd hj (by show ¬ j + 1 + 1 < 2; omega)
        obtain ⟨nm, alt⟩ := giveM_ok hgo
        refine ⟨_, rfl, _, rfl, d, _, rfl, DGet.k (k := Sum.inr n) d4, _, rfl, ?_⟩
        rw [gd_some, decide_eq_false nm]
        refine iteF ⟨_, rfl, full n, ⟨Nat.le_trans hn (by decide), rfl⟩, ?_⟩
        rw [show full n = !decide (n = "") from str_truth n]
        rcases alt with ⟨z1, z2⟩ | ⟨z1, z2⟩
        · rw [decide_eq_true z1]
          exact iteF ⟨gj, _, rfl, s4, q4, d4, by omega, by rw [← hgj, z2]⟩
        · rw [decide_eq_false z1]
          refine iteT ⟨_, rfl, _, rfl, d, _, rfl, DPut.k (k := Sum.inr n) d4 ?_, ?_⟩
          · unfold gd
            rw [List.length_map]
            exact Nat.lt_of_le_of_lt (show gj.length ≤ 10000 by have : j < 2 := hj; omega) (by decide)
          · rw [gd_put nm]
            refine ⟨gj ++ [n], _, rfl, s4.putNew hd, (upd_ne nqd).trans q4, upd_same, by rw [List.length_append]; show gj.length + 1 ≤ _; omega, by rw [← hgj, z2]⟩
      · rintro σ H4 ⟨gj, x3, rfl, s4, q4, d4, l4, e⟩
        have e' : gj = g2 := e
        have l5 : gj.length ≤ 2 * i + 2 := l4
        exact ⟨gj, _, _, rfl, s4, d4, by omega, by rw [e']; exact e4⟩
    · rintro σ H1 ⟨gi, x2, x3, rfl, s1, h1, l1, e1⟩
      have hn : (xs.map V.ref).length = Rs.length := by rw [List.length_map, hR.at_.1]
      rw [hn, List.drop_length] at e1
      have e2 : gi = g := Except.ok.inj e1
      rw [e2] at h1
      exact ⟨_, rfl, k _ d s1 hd h1⟩
end
end Rs
/-! naming.py: check_known -/
namespace Rs
open PySem PySem.Spec PyProof.Rows L2 C8
def stepR (early : List (Str × Int)) (R : Rm) : Rm := if R.op = ("at" : Str) ∨ R.op = ("room" : Str) then { R with amount := worthM early 0 R.sum0 } else R
def stepE (early : List (Str × Int)) (R : Rm) : List (Str × Int) := if R.op = ("is" : Str) ∧ isEarlyM early R.sum0 = true then putL early R.gives (worthM early 0 R.sum0) else early
theorem not_is {R : Rm} (h : R.op = ("at" : Str) ∨ R.op = ("room" : Str)) : R.op ≠ ("is" : Str) := fun z => by
  rcases h with y | y
  · rw [y] at z
    exact absurd z (by decide)
  · rw [y] at z
    exact absurd z (by decide)
theorem knownM_cons {g : List Str} {R : Rm} {r tail : List Rm} {early : List (Str × Int)} (h : knownM g (R :: r) early = .ok tail) :
    R.sums.all (isKnownM g) = true ∧ ((R.op = ("at" : Str) ∨ R.op = ("room" : Str)) → isEarlyM early R.sum0 = true) ∧ ∃ t, tail = stepR early R :: t ∧ knownM g r (stepE early R) = .ok t := by
  unfold knownM at h
  by_cases q : R.sums.all (isKnownM g) = false
  · rw [if_pos q] at h
    cases h
  rw [if_neg q] at h
  refine ⟨by simpa using q, ?_⟩
  by_cases q1 : R.op = ("at" : Str) ∨ R.op = ("room" : Str)
  · rw [if_pos q1] at h
    by_cases q2 : isEarlyM early R.sum0 = false
    · rw [if_pos q2] at h
      cases h
    rw [if_neg q2] at h
    refine ⟨fun _ => by simpa using q2, ?_⟩
    have e : stepE early R = early := if_neg (fun z => not_is q1 z.1)
    have e2 : stepR early R = { R with amount := worthM early 0 R.sum0 } := if_pos q1
    rw [e, e2]
    cases ek : knownM g r early with
    | error z =>
      rw [ek] at h
      cases h
    | ok t =>
      rw [ek] at h
      exact ⟨t, (Except.ok.inj h).symm, rfl⟩
  · rw [if_neg q1] at h
    refine ⟨fun z => absurd z q1, ?_⟩
    have e2 : stepR early R = R := if_neg q1
    rw [e2]
    have h : (match knownM g r (stepE early R) with | .error e => (.error e : Re (List Rm)) | .ok rs => .ok (R :: rs)) = .ok tail := h
    cases ek : knownM g r (stepE early R) with
    | error z =>
      rw [ek] at h
      cases h
    | ok t =>
      rw [ek] at h
      exact ⟨t, (Except.ok.inj h).symm, rfl⟩
theorem early_known {m : List (Str × Int)} {L : List Pp} (h : isEarlyM m L = true) : KnownL m L := fun n hn _ => by
  have := List.all_eq_true.mp h n hn
  exact Option.isSome_iff_exists.mp this
theorem wf_one {R : Rm} (h : WfR R) (q : R.op = ("at" : Str) ∨ R.op = ("room" : Str) ∨ R.op = ("is" : Str)) : R.sums.length = 1 := by
  rcases h with ⟨z, _⟩ | ⟨_, z⟩ | z | ⟨nb, nn, z, z1, z2⟩
  · rcases q with q | q | q <;> rw [q] at z <;> exact absurd z (by decide)
  · exact z
  · rcases q with q | q | q <;> rw [q] at z <;> exact absurd z (by decide)
  · rcases q with q | q | q <;> rw [q] at z <;> cases z <;> exact z2
section
variable {P : Program} {w : World} {K : PySem.W.Frag} {mg : Str → Option Value} {base : Heap} {C : Addr}
def spKnownAll (K : PySem.W.Frag) (C : Addr) : Sp := fun vs H Q _ => ∃ (r d : Addr) (I : Hp) (xs : List Addr) (Rs Rs' : List Rm) (g : List Str), vs = [.ref r, .ref d] ∧ H r = some (.lst (xs.map V.ref)) ∧ RowsAt C I H xs Rs ∧ H d = some (.dK (gd g)) ∧ Tabs K H ∧ Rs.length ≤ 1000 ∧ knownM g Rs [] = .ok Rs' ∧
  ∀ H', RowsAt C I H' xs Rs' → KpS xs H H' → Q .non H'
theorem ok_check_known (D : DefAt K mg "check_known" sD_check_known) (T : Txt w K mg) (MR : TxtR K C) (c_is_known : Cal P w K mg base 2 "is_known" (spKnown K) []) (c_is_early : Cal P w K mg base 2 "is_early" (spEarly K) []) (c_worth_of : Cal P w K mg base 1 "worth_of" spWorthM []) : Cal P w K mg base 3 "check_known" (spKnownAll K C) [] := by
  refine cal_of D sc_check_known (fun _ _ _ _ _ _ us hl => match us, hl with | [_, _], _ => rfl) (fun vs H Q E h => ?_) (fun cdv A outer s H vs Q E hr h => ?_)
  · obtain ⟨r, d, I, xs, Rs, Rs', g, rfl, _⟩ := h
    rfl
  · obtain ⟨r, d, I, xs, Rs, Rs', g, rfl, hl, hR, hd, hT, hz, hk, k⟩ := h
    refine ⟨_, (pss_cons (ps_set (i := 2) sc_check_known.nd rfl (Or.inl rfl) pe_dnewK)
  (pss_one (ps_for PassesOwn.never rfl (pi_list (pv 0)) (pg_name (i := 3) sc_check_known.nd rfl (Or.inl rfl))
   (pss_cons (ps_for PassesOwn.never rfl (pi_list (pe_fld (pv 3) rfl)) (pg_name (i := 4) sc_check_known.nd rfl (Or.inl rfl))
   (pss_one (ps_if (pt_not (pt_val (pe_c c_is_known hr (by decide) (by rfl) (pa_cons (pv 4) (pa_cons (pv 1) pa_nil)))))
   (pss_one ps_never)
   pss_nil)))
  (pss_cut (ps_if (pt_cmpR op_in_seq (pe_fld (pv 3) rfl) (pe_tup (pa_cons pe_str (pa_cons pe_str pa_nil))) (by rfl))
   (pss_cons (ps_if (pt_not (pt_val (pe_c c_is_early hr (by decide) (by rfl) (pa_cons (pe_ix ix_list (pe_fld (pv 3) rfl) pe_int (fun _ _ => rfl)) (pa_cons (pv 2) pa_nil)))))
   (pss_one ps_never)
   pss_nil)
  (pss_one (ps_fld (pv 3) (pe_c c_worth_of hr (by decide) (by rfl) (pa_cons (pe_ix ix_list (pe_fld (pv 3) rfl) pe_int (fun _ _ => rfl)) (pa_cons pe_int (pa_cons (pv 2) pa_nil)))) rfl)))
   pss_nil)
  (pss_one (ps_if (PW.pt (pw_and (pt_cmpR op_eq (pe_fld (pv 3) rfl) pe_str (nomark _)) (pw_and1 (pt_val (pe_c c_is_early hr (by decide) (by rfl) (pa_cons (pe_ix ix_list (pe_fld (pv 3) rfl) pe_int (fun _ _ => rfl)) (pa_cons (pv 2) pa_nil)))))))
   (pss_one (ps_dput (hu_of hr) (pv 2) (pe_fld (pv 3) rfl) (pe_c c_worth_of hr (by decide) (by rfl) (pa_cons (pe_ix ix_list (pe_fld (pv 3) rfl) pe_int (fun _ _ => rfl)) (pa_cons pe_int (pa_cons (pv 2) pa_nil)))) rfl))
   pss_nil))))))), ?_⟩
    intro e he
    have ie : I e = none := hR.sub.free he
    have nex : e ∉ xs := hR.free he
    refine ⟨_, rfl, r, rfl, ⟨_, SqL.of ((upd_ne (ne_of_none hl he)).trans hl)⟩, for_it (walk_list (K := K) (a := r) (xs := xs.map V.ref)) (fun i σ H' => ∃ (A : List Rm) (early : List (Str × Int)) (tail : List Rm) (x3 x4 : Option V), σ = [some (.ref r), some (.ref d), some (.ref e), x3, x4] ∧ A.length = i ∧ RowsAt C I H' xs (A ++ Rs.drop i) ∧ KpS xs H H' ∧ H' e = some (.dK (kv V.int early)) ∧ early.length ≤ i ∧ knownM g (Rs.drop i) early = .ok tail ∧ Rs' = A ++ tail)
      ⟨[], [], Rs', _, _, rfl, rfl, hR.put ie nex, (KpS.refl _ _).put he, upd_same, Nat.zero_le _, hk, rfl⟩ (fun i σ H' _ ⟨_, _, _, _, _, _, _, _, z, _⟩ => SqL.of (hR.lst hl z)) ?_ ?_⟩
    · rintro i v σ H1 H2 hi ⟨A, early, tail, x3, x4, rfl, hA, h1, k1, e1, l1, m1, hR'⟩ ⟨rfl, hv⟩
      obtain ⟨x, ex, rfl⟩ := map_at hv
      obtain ⟨R, eR, _⟩ := hR.at_.get ex
      have hi2 : i < 1000 := by
        have := (List.getElem?_eq_some_iff.mp eR).1
        omega
      rw [drop_cons eR] at h1 m1
      obtain ⟨kn, ker, t, rfl, m2⟩ := knownM_cons m1
      obtain ⟨dx, b, sa, tt, hx, hix, hm⟩ := h1.at_.2 i x R ex (get_mid hA)
      have hmH := hm.same h1.sub
      obtain ⟨ts, g1, g2⟩ := hmH.s
      have hT2 := hR.tabs hT k1
      have d2 : H2 d = some (.dK (gd g)) := k1 _ _ hd (hR.notIn hd (fun _ _ z => by cases z))
      refine ⟨_, rfl, x, C, dx, rfm R b sa tt, _, rfl, hx, MR.cl, MR.sums, rfl, sa, rfl, ⟨_, SqL.of g1⟩, for_it (walk_list (K := K) (a := sa) (xs := ts.map V.ref)) (fun j σ H' => Same H2 H' ∧ ∃ x4, σ = [some (.ref r), some (.ref d), some (.ref e), some (.ref x), x4]) ⟨Same.refl _, _, rfl⟩ (fun j σ H' _ ⟨z, _⟩ => SqL.of (z _ _ g1)) ?_ ?_⟩
      · rintro j v σ H3 H4 hj ⟨s3, x4, rfl⟩ ⟨rfl, hv⟩
        obtain ⟨u, eu, rfl⟩ := map_at hv
        have hj2 : j < R.sums.length := by
          rw [← g2.1]
          exact (List.getElem?_eq_some_iff.mp eu).1
        have eL := List.getElem?_eq_getElem hj2
        have mL := List.getElem_mem hj2
        have kL := List.all_eq_true.mp kn _ mL
        generalize R.sums[j] = L at eL mL kL
        refine ⟨_, rfl, _, rfl, u, d, L, g, rfl, (g2.2 j u L eu eL).mono s3, hm.sg L mL, s3 _ _ d2, hT2.same s3, fun H5 s5 => ⟨_, rfl, ?_⟩⟩
        rw [kL]
        exact iteF ⟨s3.trans s5, _, rfl⟩
      · rintro σ H3 ⟨s3, x4, rfl⟩
        have h3 := h1.same s3
        have x5 := s3 _ _ hx
        have e5 := s3 _ _ e1
        have k3 := k1.trans (Same.kps s3 xs)
        have m3 := hmH.same s3
        have hT3 := hT2.same s3
        refine ⟨fun σ' H' => (∃ x4, σ' = [some (.ref r), some (.ref d), some (.ref e), some (.ref x), x4]) ∧ RowsAt C I H' xs (A ++ stepR early R :: Rs.drop (i + 1)) ∧ KpS xs H H' ∧ H' e = some (.dK (kv V.int early)), ?_, ?_⟩
        · refine ⟨_, rfl, x, C, dx, rfm R b sa tt, _, rfl, x5, MR.cl, MR.op, rfl, (by show 2 ≤ sizeLine; decide), fun q hq => ⟨q, _, rfl, .inr (SqT.of upd_same), rfl, rfl, _, rfl, ?_⟩⟩
          rw [show (if (false : Bool) = true then !inV (V.str R.op) [.str "at", .str "room"] else inV (V.str R.op) [.str "at", .str "room"]) = decide (R.op ∈ (["at", "room"] : List Str)) from in_strs ["at", "room"]]
          have s4 : Same H3 (upd H3 q (.tup [.str "at", .str "room"])) := Same.new hq
          generalize upd H3 q (.tup [.str "at", .str "room"]) = H4 at s4 ⊢
          have h4 := h3.same s4
          have k4 := k3.trans (Same.kps s4 xs)
          by_cases q1 : R.op = ("at" : Str) ∨ R.op = ("room" : Str)
          · rw [decide_eq_true (show R.op ∈ (["at", "room"] : List Str) by rcases q1 with z | z <;> rw [z] <;> decide)]
            obtain ⟨u, w1, w2, w3⟩ := (m3.same s4).sum0 (wf_one hm.wf (q1.elim .inl fun z => .inr (.inl z)))
            refine iteT ⟨_, rfl, x, C, dx, rfm R b sa tt, _, rfl, s4 _ _ x5, MR.cl, MR.sums, rfl, sa, _, _, _, rfl, rfl, SqL.of w1, atI_nat (j := 0) rfl, _, rfl, u, e, R.sum0, early, rfl, w2, w3, s4 _ _ e5, hT3.same s4, fun H5 s5 => ⟨_, rfl, ?_⟩⟩
            rw [ker q1]
            refine iteF ?_
            have h5 := h4.same s5
            have k5 := k4.trans (Same.kps s5 xs)
            have x6 := s5 _ _ (s4 _ _ x5)
            refine ⟨_, rfl, x, C, dx, rfm R b sa tt, _, rfl, x6, MR.cl, MR.sums, rfl, sa, _, _, _, rfl, rfl, SqL.of (s5 _ _ w1), atI_nat (j := 0) rfl, _, rfl, u, e, 0, R.sum0, early, rfl, w2.mono s5, s5 _ _ (s4 _ _ e5), w3, early_known (ker q1), _, rfl, x, C, dx, rfm R b sa tt, rfl, x6, MR.cl, MR.amount, (by show 10 < 1000; decide), ?_⟩
            have hm' : RowIm I b sa tt (stepR early R) := by
              rw [show stepR early R = { R with amount := worthM early 0 R.sum0 } from if_pos q1]
              exact ⟨hm.b, hm.s, hm.t, hm.sg, hm.wf, hm.few, hm.lab, hm.gv⟩
            have h6 := h5.set (dx := dx) ex hm'
            rw [set_mid hA, List.append_assoc] at h6
            have eo : HO.ins C dx (putF "amount" (V.int (worthM early 0 R.sum0)) (rfm R b sa tt)) = .ins C dx (rfm (stepR early R) b sa tt) := by
              rw [show stepR early R = { R with amount := worthM early 0 R.sum0 } from if_pos q1] <;> rfl
            rw [eo]
            refine ⟨⟨_, rfl⟩, h6, k5.at (List.mem_of_getElem? ex), (upd_ne (fun z => ?_)).trans (s5 _ _ (s4 _ _ e5))⟩
            rw [z] at e5
            rw [e5] at x5
            cases x5
          · rw [decide_eq_false (show R.op ∉ (["at", "room"] : List Str) from fun z => q1 ((List.mem_cons.mp z).imp id fun y => List.mem_singleton.mp y))]
            rw [show stepR early R = R from if_neg q1]
            exact iteF ⟨⟨_, rfl⟩, h4, k4, s4 _ _ e5⟩
        · rintro σ4 H4 ⟨⟨x5, rfl⟩, h4, k4, e4⟩
          have eS : ∀ {p : Rm → Prop}, (∀ a, p { R with amount := a }) → p R → p (stepR early R) := fun {p} h1 h2 => by
            unfold stepR
            split
            · exact h1 _
            · exact h2
          obtain ⟨dx, b, sa, tt, hx, hix, hm⟩ := h4.at_.2 i x (stepR early R) ex (get_mid hA)
          have eop : (stepR early R).op = R.op := eS (p := fun z => z.op = R.op) (fun _ => rfl) rfl
          have egi : (stepR early R).gives = R.gives := eS (p := fun z => z.gives = R.gives) (fun _ => rfl) rfl
          have es0 : (stepR early R).sum0 = R.sum0 := eS (p := fun z => z.sum0 = R.sum0) (fun _ => rfl) rfl
          have hmH := hm.same h4.sub
          have fin : ∀ H', RowsAt C I H' xs (A ++ stepR early R :: Rs.drop (i + 1)) → KpS xs H H' → H' e = some (.dK (kv V.int (stepE early R))) → ∃ (A' : List Rm) (early' : List (Str × Int)) (tail : List Rm) (y3 y4 : Option V), ([some (.ref r), some (.ref d), some (.ref e), some (.ref x), x5] : List (Option V)) = [some (.ref r), some (.ref d), some (.ref e), y3, y4] ∧ A'.length = i + 1 ∧ RowsAt C I H' xs (A' ++ Rs.drop (i + 1)) ∧ KpS xs H H' ∧ H' e = some (.dK (kv V.int early')) ∧ early'.length ≤ i + 1 ∧ knownM g (Rs.drop (i + 1)) early' = .ok tail ∧ Rs' = A' ++ tail := fun H' a1 a2 a3 =>
            ⟨A ++ [stepR early R], stepE early R, t, _, _, rfl, by rw [List.length_append, hA] <;> rfl, by rw [List.append_assoc]; exact a1, a2, a3, by
              unfold stepE
              split
              · exact Nat.le_trans (putL_len _ _ _) (by omega)
              · omega, m2, by rw [hR', List.append_assoc] <;> rfl⟩
          refine ⟨_, rfl, x, C, dx, _, _, rfl, hx, MR.cl, MR.op, rfl, rfl, _, rfl, ?_⟩
          by_cases q2 : R.op = ("is" : Str)
          · rw [decide_eq_true (congrArg V.str (eop.trans q2))]
            obtain ⟨u, w1, w2, w3⟩ := hmH.sum0 (wf_one hm.wf (.inr (.inr (eop.trans q2))))
            rw [es0] at w2 w3
            refine iteT ⟨_, rfl, x, C, dx, _, _, rfl, hx, MR.cl, MR.sums, rfl, sa, _, _, _, rfl, rfl, SqL.of w1, atI_nat (j := 0) rfl, _, rfl, u, e, R.sum0, early, rfl, w2, w3, e4, hR.tabs hT k4, fun H5 s5 => ⟨_, rfl, ?_⟩⟩
            cases ee : isEarlyM early R.sum0 with
            | false =>
              refine iteF (fin H5 (h4.same s5) (k4.trans (Same.kps s5 xs)) ?_)
              rw [show stepE early R = early from if_neg (fun z => by rw [ee] at z; cases z.2)]
              exact s5 _ _ e4
            | true =>
              refine iteT ⟨_, rfl, x, C, dx, _, _, rfl, s5 _ _ hx, MR.cl, MR.sums, rfl, sa, _, _, _, rfl, rfl, SqL.of (s5 _ _ w1), atI_nat (j := 0) rfl, _, rfl, u, e, 0, R.sum0, early, rfl, w2.mono s5, s5 _ _ e4, w3, early_known ee, _, rfl, _, rfl, x, C, dx, _, _, rfl, s5 _ _ hx, MR.cl, MR.gives, rfl, e, _, rfl, DPut.k (k := Sum.inr (stepR early R).gives) (s5 _ _ e4) ?_, ?_⟩
              · rw [kv_len]
                exact Nat.lt_of_le_of_lt (show early.length ≤ 1000 by omega) (by decide)
              · refine fin _ ((h4.same s5).put ie nex) ((k4.trans (Same.kps s5 xs)).put he) ?_
                rw [upd_same, kv_put, egi, show stepE early R = putL early R.gives (worthM early 0 R.sum0) from if_pos ⟨q2, ee⟩]
          · rw [decide_eq_false (fun z => q2 (eop.symm.trans (V.str.inj z)))]
            refine iteF (iteF (fin H4 h4 k4 ?_))
            rw [show stepE early R = early from if_neg (fun z => q2 z.1)]
            exact e4
    · rintro σ H1 ⟨A, early, tail, x3, x4, rfl, hA, h1, k1, e1, l1, m1, hR'⟩
      have hn : (xs.map V.ref).length = Rs.length := by rw [List.length_map, hR.at_.1]
      rw [hn, List.drop_length] at h1 m1
      have e2 : tail = [] := (Except.ok.inj m1).symm
      rw [e2] at hR'
      rw [← hR'] at h1
      exact k H1 h1 k1
end
end Rs
/-! naming.py: settled_first -/
namespace Rs
open PySem PySem.Spec PyProof.Rows L2 C8
theorem gd_drop (n : Str) (g : List Str) : dropK (gd g) (Sum.inr n) = gd (g.filter fun m => decide (m ≠ n)) := by
  unfold dropK gd
  induction g with
  | nil => rfl
  | cons a r ih =>
    rw [List.map_cons, List.filter_cons, List.filter_cons]
    by_cases q : a = n
    · rw [if_neg (by simp [q]), if_neg (by simp [q])]
      exact ih
    · rw [if_pos (by simp [q]), if_pos (by simp [q]), List.map_cons, ih]
/-- a row by its place among the rows -/
def PtAt (xs : List Addr) (Rs : List Rm) (a : Addr) (R : Ri) : Prop := xs[R.2]? = some a ∧ Rs[R.2]? = some R.1
theorem zipIdx_at {Rs : List Rm} {R : Ri} (h : R ∈ Rs.zipIdx) : Rs[R.2]? = some R.1 := by
  obtain ⟨i, hi, e⟩ := List.mem_iff_getElem.mp h
  rw [List.getElem_zipIdx] at e
  rw [List.length_zipIdx] at hi
  subst e
  simp
theorem isRows_take {Rs : List Rm} {i : Nat} {R : Rm} (e : Rs[i]? = some R) : (Rs.zipIdx.take (i + 1)).filter (fun R : Ri => decide (R.1.op = ("is" : Str))) = (Rs.zipIdx.take i).filter (fun R : Ri => decide (R.1.op = ("is" : Str))) ++ (if R.op = ("is" : Str) then [(R, i)] else []) := by
  have e2 : Rs.zipIdx[i]? = some (R, i) := by
    rw [List.getElem?_zipIdx, e] <;> simp
  rw [take_snoc e2, List.filter_append, List.filter_cons, List.filter_nil]
  by_cases q : R.op = ("is" : Str)
  · rw [if_pos (decide_eq_true q), if_pos q]
  · rw [if_neg (by simp [q]), if_neg q]
theorem roundM_cons {R : Ri} {r : List Ri} {uns : List Str} {still : List Ri} {order : List Nat} : roundM (R :: r) uns still order = if hangsM uns R.1 = true then roundM r uns (still ++ [R]) order else roundM r (uns.filter fun n => decide (n ≠ R.1.gives)) still (order ++ [R.2]) := rfl
theorem settledGo_cons {n : Nat} {wt : List Ri} {uns : List Str} {order res : List Nat} (h : settledGo n wt uns order = .ok res) (hne : wt ≠ []) : ∃ m uns' still order', n = m + 1 ∧ roundM wt uns [] order = (uns', still, order') ∧ still.length ≠ wt.length ∧ settledGo m still uns' order' = .ok res := by
  cases wt with
  | nil => exact absurd rfl hne
  | cons R r =>
    cases n with
    | zero => cases h
    | succ m =>
      have h : (match roundM (R :: r) uns [] order with | (uns', still, order') => if still.length = (R :: r).length then (.error ((still.headD R).1.row, "ring") : Re (List Nat)) else settledGo m still uns' order') = .ok res := h
      generalize roundM (R :: r) uns [] order = z at h
      obtain ⟨uns', still, order'⟩ := z
      by_cases q : still.length = (R :: r).length
      · simp only [if_pos q] at h
        cases h
      · simp only [if_neg q] at h
        exact ⟨m, uns', still, order', rfl, rfl, q, h⟩
section
variable {P : Program} {w : World} {K : PySem.W.Frag} {mg : Str → Option Value} {base : Heap} {C : Addr}
def spSettled (K : PySem.W.Frag) (C : Addr) : Sp := fun vs H Q _ => ∃ (r : Addr) (I : Hp) (xs : List Addr) (Rs : List Rm) (res : List Nat), vs = [.ref r] ∧ H r = some (.lst (xs.map V.ref)) ∧ RowsAt C I H xs Rs ∧ Tabs K H ∧ Rs.length ≤ 1000 ∧ ((isRows Rs).map fun R => R.1.gives).Nodup ∧ settledM Rs = .ok res ∧
  ∀ (H' : Hp) (o : Addr) (os : List Addr), Same H H' → H o = none → H' o = some (.lst (os.map V.ref)) → Al (fun a i => xs[i]? = some a) os res → Q (.ref o) H'
theorem ok_settled_first (D : DefAt K mg "settled_first" sD_settled_first) (T : Txt w K mg) (MR : TxtR K C) (TB : Rg.TabB base mg (He.codeOf K ("settled_first", none)) (tabAt K "settled_first")) (c_names_in : Cal P w K mg base 1 "names_in" spNamesIn []) : Cal P w K mg base 2 "settled_first" (spSettled K C) [] := by
  refine calT_of D sc_settled_first (fun _ _ _ _ _ _ us hl => match us, hl with | [_], _ => rfl) (fun vs H Q E h => ?_) (fun Ar outer s H vs Q E hr h => ?_)
  · obtain ⟨r, I, xs, Rs, res, rfl, _⟩ := h
    rfl
  · obtain ⟨r, I, xs, Rs, res, rfl, hl, hR, hT, hz, hnd, hres, k⟩ := h
    have hcd : (cxOf L2.CX0 P w K mg base N_settled_first "settled_first" (defScope sD_settled_first) (He.ga K "settled_first") (.ref (He.codeOf K ("settled_first", none))) Ar outer s H E).nox.env.code = .ref (He.codeOf K ("settled_first", none)) := rfl
    refine ⟨_, (pss_cons (ps_setLc (i := 1) (own := [("row", 5)]) (g := gName 5) (by rfl) sc_settled_first.nd rfl rfl (sw_true rfl rfl rfl (by decide +kernel)) (pi_list (pv 0)) (blkOk_by (own := [("row", 5)]) (N := N_settled_first) (sc := defScope sD_settled_first) (by decide +kernel)) (fun _ _ _ _ _ => (pg_name (i := 5) sc_settled_first.nd rfl (Or.inl rfl))) (fun _ _ _ _ _ => (pts_one (pt_cmpR op_eq (Rg.pe_fldK K rfl (pv 5) rfl) pe_str (nomark _)))) (fun _ _ _ _ _ => (pv 5)))
  (pss_cons (ps_set (i := 2) sc_settled_first.nd rfl (Or.inr rfl) (pe_dc (own := [("row", 5)]) (g := gName 5) (by rfl) sc_settled_first.nd (pi_list (pv 1)) (blkOk_by (own := [("row", 5)]) (N := N_settled_first) (sc := defScope sD_settled_first) (by decide +kernel)) (fun _ _ _ _ _ => (pg_name (i := 5) sc_settled_first.nd rfl (Or.inl rfl))) (fun _ _ _ _ _ => pts_nil) (fun _ _ _ _ _ => (Rg.pe_fldK K rfl (pv 5) rfl)) (fun _ _ _ _ _ => pe_bl)))
  (pss_cons (ps_set (i := 3) sc_settled_first.nd rfl (Or.inl rfl) (pe_lst pa_nil))
  (pss_cons (ps_while PassesOwn.never (pt_truth (pv 1) (by intro _; rfl))
   (pss_cons (ps_set (i := 4) sc_settled_first.nd rfl (Or.inl rfl) (pe_lst pa_nil))
  (pss_cons (ps_for PassesOwn.never rfl (pi_list (pv 1)) (pg_name (i := 5) sc_settled_first.nd rfl (Or.inl rfl))
   (pss_one (ps_if (pt_val (Rg.pe_anyL hr (by rfl) T.free_any TB hcd (Rg.genT_by (sc := defScope sD_settled_first) (by decide +kernel)) (pe_c c_names_in hr (by decide) (by rfl) (pa_cons (pe_ix ix_list (pe_fld (pv 5) rfl) pe_int (fun _ _ => rfl)) pa_nil)) (fun _ => rfl)))
   (pss_one (ps_expr (pe_bm PySem.F.plainAttrs_list PySem.F.slot_list_append PySem.F.type_list_append mt_append (pv 4) (pa_cons (pv 5) pa_nil))))
   (pss_cons (ps_expr (pe_bm PySem.F.plainAttrs_list PySem.F.slot_list_append PySem.F.type_list_append mt_append (pv 3) (pa_cons (pv 5) pa_nil)))
  (pss_one (ps_ddel (pv 2) (pe_fld (pv 5) rfl)))))))
  (pss_cons (ps_if (pt_cmpR op_eq (pe_callB call_len_seq (by rfl) T.free_len (by decide +kernel) (pa_cons (pv 4) pa_nil)) (pe_callB call_len_seq (by rfl) T.free_len (by decide +kernel) (pa_cons (pv 1) pa_nil)) (nomark _))
   (pss_one ps_never)
   pss_nil)
  (pss_one (ps_set (i := 1) sc_settled_first.nd rfl (Or.inl rfl) (pv 4)))))))
  (pss_one (ps_ret (pv 3))))))), ?_⟩
    refine ⟨_, rfl, r, rfl, ⟨_, SqL.of hl⟩, fun aw haw => ?_⟩
    have hlx : xs.length = Rs.length := hR.at_.1
    -- waiting
    refine lc_list (K := K) (a := r) (xs := xs.map V.ref) (fun i H' => Same H H' ∧ ∃ as : List Addr, H' aw = some (.lst (as.map V.ref)) ∧ as.length ≤ i ∧ Al (PtAt xs Rs) as ((Rs.zipIdx.take i).filter fun R : Ri => decide (R.1.op = ("is" : Str)))) ⟨Same.new haw, [], upd_same, Nat.zero_le _, Al.nil⟩ (fun i H' _ ⟨z, _⟩ => SqL.of (z _ _ hl)) ?_ ?_
    · rintro i v H3 hv ⟨s3, as, h3, l3, a3⟩
      obtain ⟨x, ex, rfl⟩ := map_at hv
      obtain ⟨R, dx, b, sa, t, eR, hx, hm⟩ := hR.get ex
      have hi2 : i < 1000 := by
        have := (List.getElem?_eq_some_iff.mp eR).1
        omega
      refine ⟨rfl, _, rfl, x, C, dx, rfm R b sa t, _, rfl, s3 _ _ hx, MR.cl, MR.op, rfl, rfl, _, rfl, ?_⟩
      have et := isRows_take eR
      by_cases q : R.op = ("is" : Str)
      · rw [decide_eq_true (congrArg V.str q)]
        rw [if_pos q] at et
        refine iteT ⟨_, rfl, _, h3, ?_, s3.putNew haw, as ++ [x], ?_, by rw [List.length_append]; exact Nat.succ_le_succ l3, ?_⟩
        · rw [List.length_map]
          exact Nat.lt_of_le_of_lt (show as.length ≤ 1000 by omega) (by decide)
        · rw [upd_same, List.map_append] <;> rfl
        · rw [et]
          exact a3.snoc ⟨ex, eR⟩
      · rw [decide_eq_false (fun z => q (V.str.inj z))]
        rw [if_neg q, List.append_nil] at et
        exact iteF ⟨s3, as, h3, Nat.le_succ_of_le l3, by rw [et]; exact a3⟩
    rintro H3 ⟨s3, as, h3, l3, a3⟩
    have hall : (Rs.zipIdx.take (xs.map V.ref).length).filter (fun R : Ri => decide (R.1.op = ("is" : Str))) = isRows Rs := by
      rw [List.length_map, hlx, List.take_of_length_le (by rw [List.length_zipIdx]; exact Nat.le_refl _)] <;> rfl
    rw [hall] at a3
    rw [List.length_map, hlx] at l3
    have his : ∀ R ∈ isRows Rs, R.1.op = ("is" : Str) := fun R hRm => of_decide_eq_true (List.mem_filter.mp hRm).2
    have hlw : (isRows Rs).length ≤ 1000 := by rw [← a3.1]; omega
    unfold settledM at hres
    generalize isRows Rs = wt at a3 hnd his hlw hres
    -- unsettled
    refine ⟨_, rfl, aw, rfl, ⟨_, SqL.of h3⟩, fun u hu => ?_⟩
    have hu0 : H u = none := s3.free hu
    have nau : aw ≠ u := ne_of_none h3 hu
    refine Rg.dc_list (K := K) (a := aw) (xs := as.map V.ref) (fun i H' => Same H H' ∧ H' aw = some (.lst (as.map V.ref)) ∧ H' u = some (.dK (gd ((wt.take i).map fun R => R.1.gives)))) ⟨s3.add hu, (upd_ne nau).trans h3, upd_same⟩ (fun i H' _ ⟨_, z, _⟩ => SqL.of z) ?_ ?_
    · rintro i v H4 hv ⟨s4, h4, u4⟩
      obtain ⟨x, ex, rfl⟩ := map_at hv
      obtain ⟨R, eR, p1, p2⟩ := a3.get ex
      obtain ⟨dx, b, sa, t, hx, hix, hm⟩ := hR.at_.2 _ _ _ p1 p2
      have hi2 : i < 1000 := by
        have := (List.getElem?_eq_some_iff.mp eR).1
        omega
      have hng : R.1.gives ∉ (wt.take i).map fun R => R.1.gives := by
        have e1 : wt.map (fun R => R.1.gives) = (wt.take i).map (fun R => R.1.gives) ++ R.1.gives :: (wt.drop (i + 1)).map (fun R => R.1.gives) := by
          conv => lhs; rw [← List.take_append_drop i wt, drop_cons eR, List.map_append, List.map_cons]
        rw [e1] at hnd
        intro hmem
        exact (List.nodup_append.mp hnd).2.2 _ hmem _ List.mem_cons_self rfl
      refine ⟨rfl, yesS (iteT ⟨_, rfl, x, C, dx, rfm R.1 b sa t, _, rfl, s4 _ _ hx, MR.cl, MR.gives, rfl, gd ((wt.take i).map fun R => R.1.gives), Sum.inr R.1.gives, rfl, u4, ?_, s4.putNew hu0, (upd_ne nau).trans h4, ?_⟩)⟩
      · unfold gd
        rw [List.length_map, List.length_map, List.length_take]
        exact Nat.lt_of_le_of_lt (show min i wt.length ≤ 1000 by omega) (by decide)
      · rw [upd_same, gd_put hng, take_snoc eR, List.map_append] <;> rfl
    rintro H4 ⟨s4, h4, u4⟩
    rw [List.length_map, a3.1, List.take_length] at u4
    -- order
    refine ⟨Nat.zero_le _, fun o ho => ?_⟩
    have ho0 : H o = none := s4.free ho
    have nao : aw ≠ o := ne_of_none h4 ho
    have nuo : u ≠ o := ne_of_none u4 ho
    have s5 := s4.add (o := .lst []) ho
    have h5 : upd H4 o (.lst []) aw = some (.lst (as.map V.ref)) := (upd_ne nao).trans h4
    have u5 : upd H4 o (.lst []) u = some (.dK (gd (wt.map fun R => R.1.gives))) := (upd_ne nuo).trans u4
    have o5 : upd H4 o (.lst []) o = some (.lst []) := upd_same
    generalize upd H4 o (.lst []) = H5 at s5 h5 u5 o5 ⊢
    refine ⟨fun n σ H' => ∃ (aw : Addr) (as os : List Addr) (wt : List Ri) (uns : List Str) (ord : List Nat) (y4 y5 : Option V), σ = [some (.ref r), some (.ref aw), some (.ref u), some (.ref o), y4, y5] ∧ Same H H' ∧ H' aw = some (.lst (as.map V.ref)) ∧ aw ≠ o ∧ Al (PtAt xs Rs) as wt ∧ H' u = some (.dK (gd uns)) ∧ H' o = some (.lst (os.map V.ref)) ∧ Al (fun a i => xs[i]? = some a) os ord ∧ settledGo n wt uns ord = .ok res ∧ (∀ R ∈ wt, R.1.op = ("is" : Str)) ∧ (∀ R ∈ wt, R.1.gives ∈ uns) ∧ (wt.map fun R => R.1.gives).Nodup ∧ ord.length + wt.length ≤ 1000, ?_, ?_⟩
    · exact ⟨wt.length, aw, as, [], wt, wt.map (fun R => R.1.gives), [], _, _, rfl, s5, h5, nao, a3, u5, o5, Al.nil, hres, his, fun R hRm => List.mem_map.mpr ⟨R, hRm, rfl⟩, hnd, by show 0 + wt.length ≤ 1000; omega⟩
    rintro n σ H6 ⟨aw, as, os, wt, uns, ord, y4, y5, rfl, s6, h6, nao, a6, u6, o6, ao6, g6, his, hin, hnd, hlen⟩
    refine ⟨_, rfl, !(as.map V.ref).isEmpty, .inl ⟨_, SqL.of h6, rfl⟩, ?_⟩
    by_cases hw0 : wt = []
    · have e0 : as = [] := List.eq_nil_of_length_eq_zero (by rw [a6.1, hw0] <;> rfl)
      rw [e0]
      refine iteF ⟨_, rfl, ?_⟩
      have e1 : ord = res := by
        rw [hw0] at g6
        cases n <;> exact Except.ok.inj g6
      exact k H6 o os s6 ho0 o6 (by rw [← e1]; exact ao6)
    have e0 : (!(as.map V.ref).isEmpty) = true := by
      cases as with
      | nil =>
        have := a6.1
        exact absurd (List.eq_nil_of_length_eq_zero this.symm) hw0
      | cons _ _ => rfl
    rw [e0]
    obtain ⟨m, uns', still', ord', rfl, er, hne, g7⟩ := settledGo_cons g6 hw0
    refine iteT ⟨fun σ' H' => ∃ (aw : Addr) (as os : List Addr) (y4 y5 : Option V), σ' = [some (.ref r), some (.ref aw), some (.ref u), some (.ref o), y4, y5] ∧ Same H H' ∧ H' aw = some (.lst (as.map V.ref)) ∧ aw ≠ o ∧ Al (PtAt xs Rs) as still' ∧ H' u = some (.dK (gd uns')) ∧ H' o = some (.lst (os.map V.ref)) ∧ Al (fun a i => xs[i]? = some a) os ord' ∧ (∀ R ∈ still', R.1.op = ("is" : Str)) ∧ (∀ R ∈ still', R.1.gives ∈ uns') ∧ (still'.map fun R => R.1.gives).Nodup ∧ ord'.length + still'.length ≤ 1000, ?_, ?_⟩
    · rintro σ' H' ⟨aw, as, os, y4, y5, a1, a2, a3, a4, a5, a6, a7, a8, a9, a10, a11, a12⟩
      exact ⟨m, Nat.lt_succ_self _, aw, as, os, still', uns', ord', y4, y5, a1, a2, a3, a4, a5, a6, a7, a8, g7, a9, a10, a11, a12⟩
    -- one round
    refine ⟨Nat.zero_le _, fun st hst => ?_⟩
    have hst0 : H st = none := s6.free hst
    have nas : aw ≠ st := ne_of_none h6 hst
    have nos : o ≠ st := ne_of_none o6 hst
    have nus : u ≠ st := ne_of_none u6 hst
    have nuo : u ≠ o := fun z => by
      rw [z, o6] at u6
      cases u6
    have nua : u ≠ aw := fun z => by
      rw [z, h6] at u6
      cases u6
    have s7 := s6.add (o := .lst []) hst
    have h7 : upd H6 st (.lst []) aw = some (.lst (as.map V.ref)) := (upd_ne nas).trans h6
    have u7 : upd H6 st (.lst []) u = some (.dK (gd uns)) := (upd_ne nus).trans u6
    have o7 : upd H6 st (.lst []) o = some (.lst (os.map V.ref)) := (upd_ne nos).trans o6
    have t7 : upd H6 st (.lst []) st = some (.lst []) := upd_same
    generalize upd H6 st (.lst []) = H7 at s7 h7 u7 o7 t7 ⊢
    refine ⟨_, rfl, aw, rfl, ⟨_, SqL.of h7⟩, for_it (walk_list (K := K) (a := aw) (xs := as.map V.ref)) (fun j σ H' => ∃ (ss os : List Addr) (still : List Ri) (uns : List Str) (ord : List Nat) (y5 : Option V), σ = [some (.ref r), some (.ref aw), some (.ref u), some (.ref o), some (.ref st), y5] ∧ Same H H' ∧ H' aw = some (.lst (as.map V.ref)) ∧ H' u = some (.dK (gd uns)) ∧ H' o = some (.lst (os.map V.ref)) ∧ H' st = some (.lst (ss.map V.ref)) ∧ Al (PtAt xs Rs) ss still ∧ Al (fun a i => xs[i]? = some a) os ord ∧ roundM (wt.drop j) uns still ord = (uns', still', ord') ∧ (∀ R ∈ still ++ wt.drop j, R.1.op = ("is" : Str)) ∧ (∀ R ∈ still ++ wt.drop j, R.1.gives ∈ uns) ∧ ((still ++ wt.drop j).map fun R => R.1.gives).Nodup ∧ ord.length + (still ++ wt.drop j).length ≤ 1000)
      ⟨[], os, [], uns, ord, _, rfl, s7, h7, u7, o7, t7, Al.nil, ao6, er, his, hin, hnd, hlen⟩ (fun j σ H' _ ⟨_, _, _, _, _, _, _, _, z, _⟩ => SqL.of z) ?_ ?_⟩
    · rintro j v σ H8 H9 hj ⟨ss, os, still, uns, ord, y5, rfl, s9, h9, u9, o9, t9, as9, ao9, er9, his9, hin9, hnd9, hlen9⟩ ⟨rfl, hv⟩
      obtain ⟨x, ex, rfl⟩ := map_at hv
      obtain ⟨R, eR, p1, p2⟩ := a6.get ex
      rw [drop_cons eR] at er9 his9 hin9 hnd9 hlen9
      have mR : R ∈ still ++ R :: wt.drop (j + 1) := List.mem_append_right _ List.mem_cons_self
      rw [roundM_cons] at er9
      obtain ⟨dx, b, sa, t, hx, hix, hm⟩ := hR.at_.2 _ _ _ p1 p2
      have x9 := s9 _ _ hx
      have m9 := (hm.same hR.sub).same s9
      obtain ⟨uu, w1, w2, w3⟩ := m9.sum0 (wf_one hm.wf (.inr (.inr (his9 R mR))))
      have hl2 : still.length + ord.length + 1 ≤ 1000 := by
        rw [List.length_append, List.length_cons] at hlen9
        omega
      refine ⟨_, rfl, x, C, dx, rfm R.1 b sa t, _, rfl, x9, MR.cl, MR.sums, rfl, sa, _, _, _, rfl, rfl, SqL.of w1, atI_nat (j := 0) rfl, uu, R.1.sum0, rfl, w2, Nat.le_trans w3.2 (by decide), fun HA p sA hp0 hp => ?_⟩
      have sA' := s9.trans sA
      have hA := sA _ _ h9
      have uA := sA _ _ u9
      have oA := sA _ _ o9
      have tA := sA _ _ t9
      refine ⟨p, _, _, rfl, SqL.of hp, sA' _ _ (hT _ (by decide)), Rg.elt_inCell (j := 2) (d := u) (kvs := gd uns) (ks := (namesIn R.1.sum0).map Sum.inr) rfl rfl (by decide) rfl rfl rfl rfl uA (by rw [List.map_map]; rfl), _, rfl, ?_⟩
      have e2 : (List.range ((namesIn R.1.sum0).map V.str).length).any (Rg.inAt (gd uns) ((namesIn R.1.sum0).map Sum.inr)) = hangsM uns R.1 := by
        unfold hangsM
        rw [List.length_map]
        refine Eq.trans ?_ (range_any (fun n => decide (n ∈ uns)) (namesIn R.1.sum0))
        congr 1
        funext i
        unfold Rg.inAt
        rw [List.getElem?_map]
        cases (namesIn R.1.sum0)[i]? with
        | none => rfl
        | some n =>
          show (valV (gd uns) (Sum.inr n)).isSome = decide (n ∈ uns)
          rw [gd_some]
      rw [e2]
      cases eh : hangsM uns R.1 with
      | true =>
        rw [if_pos eh] at er9
        refine iteT ⟨_, rfl, .inl ⟨rfl, _, SqL.of tA⟩, _, rfl, st, _, _, rfl, rfl, tA, ?_, ?_⟩
        · rw [List.length_map, as9.1]
          exact Nat.lt_of_le_of_lt (show still.length ≤ 1000 by omega) (by decide)
        · refine ⟨ss ++ [x], os, still ++ [R], uns, ord, _, rfl, sA'.putNew hst0, (upd_ne nas).trans hA, (upd_ne nus).trans uA, (upd_ne nos).trans oA, by rw [upd_same, List.map_append] <;> rfl, as9.snoc ⟨p1, p2⟩, ao9, er9, ?_, ?_, ?_, ?_⟩ <;> rw [List.append_assoc]
          · exact his9
          · exact hin9
          · exact hnd9
          · exact hlen9
      | false =>
        rw [if_neg (by rw [eh]; decide)] at er9
        refine iteF ⟨_, rfl, .inl ⟨rfl, _, SqL.of oA⟩, _, rfl, o, _, _, rfl, rfl, oA, ?_, ?_⟩
        · rw [List.length_map, ao9.1]
          exact Nat.lt_of_le_of_lt (show ord.length ≤ 1000 by omega) (by decide)
        · have hxo : x ≠ o := fun z => by
            rw [z, o9] at x9
            cases x9
          have hnR : ∀ S ∈ still ++ wt.drop (j + 1), S.1.gives ≠ R.1.gives := fun S hS z => by
            rw [List.map_append, List.map_cons] at hnd9
            obtain ⟨n1, n2, n3⟩ := List.nodup_append.mp hnd9
            rcases List.mem_append.mp hS with y | y
            · exact n3 _ (List.mem_map.mpr ⟨S, y, rfl⟩) _ List.mem_cons_self z
            · exact (List.nodup_cons.mp n2).1 (by rw [← z]; exact List.mem_map.mpr ⟨S, y, rfl⟩)
          have sub : ∀ S ∈ still ++ wt.drop (j + 1), S ∈ still ++ R :: wt.drop (j + 1) := fun S hS => by
            rcases List.mem_append.mp hS with y | y
            · exact List.mem_append_left _ y
            · exact List.mem_append_right _ (List.mem_cons_of_mem _ y)
          refine ⟨_, rfl, _, rfl, x, C, dx, rfm R.1 b sa t, _, rfl, (upd_ne hxo).trans (sA _ _ x9), MR.cl, MR.gives, rfl, u, gd uns, Sum.inr R.1.gives, rfl, (upd_ne nuo).trans uA, rfl, by rw [gd_some, decide_eq_true (hin9 R mR)], ?_⟩
          rw [gd_drop]
          refine ⟨ss, os ++ [x], still, uns.filter (fun n => decide (n ≠ R.1.gives)), ord ++ [R.2], _, rfl, (sA'.putNew ho0).putNew hu0, (upd_ne nua.symm).trans ((upd_ne nao).trans hA), upd_same, by rw [upd_ne nuo.symm, upd_same, List.map_append] <;> rfl, (upd_ne nus.symm).trans ((upd_ne nos.symm).trans tA), as9, ao9.snoc p1, er9, fun S hS => his9 S (sub S hS), fun S hS => List.mem_filter.mpr ⟨hin9 S (sub S hS), decide_eq_true (hnR S hS)⟩, ?_, ?_⟩
          · rw [List.map_append, List.map_cons] at hnd9
            obtain ⟨n1, n2, n3⟩ := List.nodup_append.mp hnd9
            rw [List.map_append]
            exact List.nodup_append.mpr ⟨n1, (List.nodup_cons.mp n2).2, fun a ha b hb => n3 a ha b (List.mem_cons_of_mem _ hb)⟩
          · rw [List.length_append, List.length_cons] at hlen9
            rw [List.length_append, List.length_append]
            show ord.length + 1 + _ ≤ 1000
            omega
    · rintro σ H8 ⟨ss, os, still, uns, ord, y5, rfl, s9, h9, u9, o9, t9, as9, ao9, er9, his9, hin9, hnd9, hlen9⟩
      rw [List.length_map, a6.1, List.drop_length] at er9 his9 hin9 hnd9 hlen9
      rw [List.append_nil] at his9 hin9 hnd9 hlen9
      have e1 : uns = uns' := congrArg (fun z => z.1) er9
      have e2 : still = still' := congrArg (fun z => z.2.1) er9
      have e3 : ord = ord' := congrArg (fun z => z.2.2) er9
      subst e1
      subst e2
      subst e3
      refine ⟨_, rfl, st, _, rfl, .inl (SqL.of t9), _, rfl, aw, _, rfl, .inl (SqL.of h9), rfl, _, rfl, ?_⟩
      rw [decide_eq_false (fun z => hne (by
        have := V.int.inj z
        rw [List.length_map, List.length_map, as9.1, a6.1] at this
        omega))]
      exact iteF ⟨_, rfl, st, ss, os, _, _, rfl, s9, t9, nos.symm, as9, u9, o9, ao9, his9, hin9, hnd9, hlen9⟩
end
end Rs
/-! placing.py: worths_at, Page, settle -/
namespace Rs
open PySem PySem.Spec PyProof.Rows L2 C8
section
variable {α : Type}
theorem getL_nil (n : Str) : getL ([] : List (Str × α)) n = none := rfl
theorem getL_cons (e : Str × α) (r : List (Str × α)) (n : Str) : getL (e :: r) n = if e.1 = n then some e.2 else getL r n := by
  unfold getL
  rw [List.find?_cons]
  by_cases q : e.1 = n
  · rw [if_pos q, decide_eq_true q] <;> rfl
  · rw [if_neg q, decide_eq_false q]
theorem getL_any (n : Str) : ∀ m : List (Str × α), (m.any fun e => decide (e.1 = n)) = (getL m n).isSome
  | [] => rfl
  | e :: r => by
    rw [List.any_cons, getL_any n r, getL_cons]
    by_cases q : e.1 = n
    · rw [if_pos q, decide_eq_true q] <;> rfl
    · rw [if_neg q, decide_eq_false q, Bool.false_or]
theorem getL_app (n : Str) (b : List (Str × α)) : ∀ a : List (Str × α), getL (a ++ b) n = (getL a n).or (getL b n)
  | [] => rfl
  | e :: r => by
    rw [List.cons_append, getL_cons, getL_cons, getL_app n b r]
    by_cases q : e.1 = n
    · rw [if_pos q, if_pos q] <;> rfl
    · rw [if_neg q, if_neg q]
theorem getL_put (a n : Str) (v : α) (m : List (Str × α)) : getL (putL m a v) n = if n = a then some v else getL m n := by
  unfold putL
  rw [getL_any]
  cases e : getL m a with
  | none =>
    rw [if_neg (fun z : (none : Option α).isSome = true => by cases z), getL_app, getL_cons, getL_nil]
    by_cases q : n = a
    · rw [if_pos q, if_pos q.symm, q, e] <;> rfl
    · rw [if_neg q, if_neg (Ne.symm q)]
      cases getL m n <;> rfl
  | some u =>
    rw [if_pos (show (some u).isSome = true from rfl)]
    have go : ∀ m : List (Str × α), getL (m.map fun e => if e.1 = a then (e.1, v) else e) n = if n = a then (getL m n).map (fun _ => v) else getL m n := fun m => by
      induction m with
      | nil =>
        by_cases q : n = a
        · rw [if_pos q] <;> rfl
        · rw [if_neg q] <;> rfl
      | cons e r ih =>
        rw [List.map_cons, getL_cons, getL_cons, ih]
        by_cases z : e.1 = a
        · rw [if_pos z]
          by_cases q : n = a
          · rw [if_pos q, if_pos q, if_pos (show (e.1, v).1 = n from z.trans q.symm), if_pos (z.trans q.symm)] <;> rfl
          · rw [if_neg q, if_neg q, if_neg (show (e.1, v).1 ≠ n from fun y => q (y.symm.trans z)), if_neg (fun y => q (y.symm.trans z))]
        · rw [if_neg z]
          by_cases q : n = a
          · have : e.1 ≠ n := fun y => z (y.trans q)
            rw [if_pos q, if_pos q, if_neg this, if_neg this]
          · rw [if_neg q, if_neg q]
    rw [go m]
    by_cases q : n = a
    · rw [if_pos q, if_pos q, q, e] <;> rfl
    · rw [if_neg q, if_neg q]
end
/-- the is rows in their order hang on what is known -/
def ChainOk (rows : List Rm) : List Nat → List (Str × Int) → Prop
  | [], _ => True
  | i :: r, m => ∃ R, rows[i]? = some R ∧ R.op = ("is" : Str) ∧ KnownL m R.sum0 ∧ ChainOk rows r (putL m R.gives (worthM m R.place R.sum0))
theorem labelsM_cons {R : Rm} {r : List Rm} {m : List (Str × Int)} : labelsM (R :: r) m = labelsM r (if R.label = "" then m else putL m R.label R.place) := rfl
theorem isWorths_cons {rows : List Rm} {i : Nat} {r : List Nat} {m : List (Str × Int)} {R : Rm} (h : rows[i]? = some R) : isWorths rows (i :: r) m = isWorths rows r (putL m R.gives (worthM m R.place R.sum0)) := by
  show (match rows[i]? with | none => isWorths rows r m | some R => isWorths rows r (putL m R.gives (worthM m R.place R.sum0))) = _
  rw [h]
section
variable {P : Program} {w : World} {K : PySem.W.Frag} {mg : Str → Option Value} {base : Heap} {C CP : Addr}
def spWorths (C : Addr) : Sp := fun vs H Q _ => ∃ (r o : Addr) (I : Hp) (xs os : List Addr) (Rs : List Rm) (ord : List Nat), vs = [.ref r, .ref o] ∧ H r = some (.lst (xs.map V.ref)) ∧ H o = some (.lst (os.map V.ref)) ∧ RowsAt C I H xs Rs ∧ Al (fun a i => xs[i]? = some a) os ord ∧ Rs.length ≤ 1000 ∧ ord.length ≤ 1000 ∧ (∀ R ∈ Rs, R.label.length ≤ 200000) ∧ ChainOk Rs ord (labelsM Rs []) ∧
  ∀ (H' : Hp) (d : Addr), Same H H' → H d = none → H' d = some (.dK (kv V.int (worthsM Rs ord))) → Q (.ref d) H'
theorem ok_worths_at (D : DefAt K mg "worths_at" sD_worths_at) (T : Txt w K mg) (MR : TxtR K C) (c_worth_of : Cal P w K mg base 1 "worth_of" spWorthM []) : Cal P w K mg base 2 "worths_at" (spWorths C) [] := by
  refine cal_of D sc_worths_at (fun _ _ _ _ _ _ us hl => match us, hl with | [_, _], _ => rfl) (fun vs H Q E h => ?_) (fun cdv A outer s H vs Q E hr h => ?_)
  · obtain ⟨r, o, I, xs, os, Rs, ord, rfl, _⟩ := h
    rfl
  · obtain ⟨r, o, I, xs, os, Rs, ord, rfl, hl, ho, hR, hos, hz, hz2, hz3, hc, k⟩ := h
    refine ⟨_, (pss_cons (Rg.ps_setDc (i := 2) (own := [("row", 3)]) (g := gName 3) (by rfl) sc_worths_at.nd rfl rfl (Rg.sw_trueD rfl rfl rfl (by decide +kernel)) (pi_list (pv 0)) (blkOk_by (own := [("row", 3)]) (N := N_worths_at) (sc := defScope sD_worths_at) (by decide +kernel)) (fun _ _ _ _ _ => (pg_name (i := 3) sc_worths_at.nd rfl (Or.inl rfl))) (fun _ _ _ _ _ => (pts_one (pt_truthK K rfl (Rg.pe_fldK K rfl (pv 3) rfl) (by intro _; rfl)))) (fun _ _ _ _ _ => (Rg.pe_fldK K rfl (pv 3) rfl)) (fun _ _ _ _ _ => (Rg.pe_fldK K rfl (pv 3) rfl)))
  (pss_cons (ps_for PassesOwn.never rfl (pi_list (pv 1)) (pg_name (i := 3) sc_worths_at.nd rfl (Or.inl rfl))
   (pss_one (ps_dput (hu_of hr) (pv 2) (pe_fld (pv 3) rfl) (pe_c c_worth_of hr (by decide) (by rfl) (pa_cons (pe_ix ix_list (pe_fld (pv 3) rfl) pe_int (fun _ _ => rfl)) (pa_cons (pe_fld (pv 3) rfl) (pa_cons (pv 2) pa_nil)))) rfl)))
  (pss_one (ps_ret (pv 2))))), ?_⟩
    refine ⟨_, rfl, r, rfl, ⟨_, SqL.of hl⟩, fun d hd => ?_⟩
    refine Rg.dc_list (K := K) (a := r) (xs := xs.map V.ref) (fun i H' => Same H H' ∧ ∃ m : List (Str × Int), H' d = some (.dK (kv V.int m)) ∧ m.length ≤ i ∧ labelsM (Rs.drop i) m = labelsM Rs []) ⟨Same.new hd, [], upd_same, Nat.zero_le _, rfl⟩ (fun i H' _ ⟨z, _⟩ => SqL.of (z _ _ hl)) ?_ ?_
    · rintro i v H4 hv ⟨s4, m, d4, l4, e4⟩
      obtain ⟨x, ex, rfl⟩ := map_at hv
      obtain ⟨R, dx, b, sa, t, eR, hx, hm⟩ := hR.get ex
      have x4 := s4 _ _ hx
      have hi2 : i < 1000 := by
        have := (List.getElem?_eq_some_iff.mp eR).1
        omega
      rw [drop_cons eR, labelsM_cons] at e4
      refine ⟨rfl, _, rfl, x, C, dx, rfm R b sa t, _, rfl, x4, MR.cl, MR.label, rfl, full R.label, ⟨Nat.le_trans (hz3 R (List.mem_of_getElem? eR)) (by decide), rfl⟩, ?_⟩
      rw [show full R.label = !decide (R.label = "") from str_truth _]
      by_cases q : R.label = ""
      · rw [decide_eq_true q]
        rw [if_pos q] at e4
        exact iteF ⟨s4, m, d4, Nat.le_succ_of_le l4, e4⟩
      · rw [decide_eq_false q]
        rw [if_neg q] at e4
        refine iteT ⟨_, rfl, x, C, dx, rfm R b sa t, _, rfl, x4, MR.cl, MR.label, rfl, _, rfl, x, C, dx, rfm R b sa t, _, rfl, x4, MR.cl, MR.place, rfl, kv V.int m, Sum.inr R.label, rfl, d4, ?_, s4.putNew hd, putL m R.label R.place, ?_, Nat.le_trans (putL_len _ _ _) (by omega), e4⟩
        · rw [kv_len]
          exact Nat.lt_of_le_of_lt (show m.length ≤ 1000 by omega) (by decide)
        · rw [upd_same, kv_put]
    rintro H4 ⟨s4, m, d4, l4, e4⟩
    have hn : (xs.map V.ref).length = Rs.length := by rw [List.length_map, hR.at_.1]
    rw [hn, List.drop_length] at e4
    have e5 : m = labelsM Rs [] := e4
    have lm : m.length ≤ 1000 := by omega
    rw [← e5] at hc
    unfold worthsM at k
    rw [← e5] at k
    refine ⟨_, rfl, o, rfl, ⟨_, SqL.of (s4 _ _ ho)⟩, for_it (walk_list (K := K) (a := o) (xs := os.map V.ref)) (fun j σ H' => ∃ (m' : List (Str × Int)) (y3 : Option V), σ = [some (.ref r), some (.ref o), some (.ref d), y3] ∧ Same H H' ∧ H' d = some (.dK (kv V.int m')) ∧ m'.length ≤ 1000 + j ∧ ChainOk Rs (ord.drop j) m' ∧ isWorths Rs (ord.drop j) m' = isWorths Rs ord m) ⟨m, _, rfl, s4, d4, lm, hc, rfl⟩ (fun i σ H' _ ⟨_, _, _, z, _⟩ => SqL.of (z _ _ ho)) ?_ ?_⟩
    · rintro j v σ H5 H6 hj ⟨m', y3, rfl, s6, d6, l6, c6, e6⟩ ⟨rfl, hv⟩
      obtain ⟨x, ex, rfl⟩ := map_at hv
      obtain ⟨i, ei, p1⟩ := hos.get ex
      have hj2 : j < 1000 := by
        have := (List.getElem?_eq_some_iff.mp ei).1
        omega
      rw [drop_cons ei] at c6 e6
      obtain ⟨R, eR, c1, c2, c3⟩ := c6
      rw [isWorths_cons eR] at e6
      obtain ⟨dx, b, sa, t, hx, hix, hm⟩ := hR.at_.2 _ _ _ p1 eR
      have x6 := s6 _ _ hx
      have m6 := (hm.same hR.sub).same s6
      obtain ⟨u, w1, w2, w3⟩ := m6.sum0 (wf_one hm.wf (.inr (.inr c1)))
      refine ⟨_, rfl, x, C, dx, rfm R b sa t, _, rfl, x6, MR.cl, MR.sums, rfl, sa, _, _, _, rfl, rfl, SqL.of w1, atI_nat (j := 0) rfl, _, rfl, x, C, dx, rfm R b sa t, _, rfl, x6, MR.cl, MR.place, rfl, _, rfl, u, d, R.place, R.sum0, m', rfl, w2, d6, w3, c2, _, rfl, _, rfl, x, C, dx, rfm R b sa t, _, rfl, x6, MR.cl, MR.gives, rfl, d, _, rfl, DPut.k (k := Sum.inr R.gives) d6 ?_, ?_⟩
      · rw [kv_len]
        exact Nat.lt_of_le_of_lt (show m'.length ≤ 2000 by omega) (by decide)
      · rw [kv_put]
        exact ⟨putL m' R.gives (worthM m' R.place R.sum0), _, rfl, s6.putNew hd, upd_same, Nat.le_trans (putL_len _ _ _) (by omega), c3, e6⟩
    · rintro σ H5 ⟨m', y3, rfl, s6, d6, l6, c6, e6⟩
      rw [List.length_map, hos.1, List.drop_length] at e6
      have e7 : m' = isWorths Rs ord m := e6
      rw [← e7] at k
      exact ⟨_, rfl, k _ d s6 hd d6⟩
structure TxtP (K : PySem.W.Frag) (C : Addr) : Prop where
  cl : Cls K C
  rows : NoAttr K C "rows"
  worths : NoAttr K C "worths"
  «end» : NoAttr K C "end"
def pgf (r d : Addr) (e : Int) : List (Str × V) := [("rows", .ref r), ("worths", .ref d), ("end", .int e)]
def spInitP (C : Addr) : Sp := fun vs H Q _ => ∃ (x dx r d : Addr) (e : Int), vs = [.ref x, .ref r, .ref d, .int e] ∧ H x = some (.ins C dx []) ∧ ∀ H', H' x = some (.ins C dx (pgf r d e)) → Pr x H H' → Q .non H'
theorem ok_Pinit {f : Addr} {fd : FuncData} (F : FnP K "__init__" "Page.__init__" sD_Pageinit f fd) (M' : TxtP K C) : FnOk P w K mg base L2.CX0 1 f fd ["self", "rows", "worths", "end"] (spInitP C) := by
  refine fnok_of F sc_Pageinit (fun vs H Q E h => ?_) (fun cdv Ar outer s H vs Q E hr h => ?_)
  · obtain ⟨x, dx, r, d, e, rfl, _⟩ := h
    rfl
  · obtain ⟨x, dx, r, d, e, rfl, hx, k⟩ := h
    refine ⟨_, (pss_cons (ps_fld (pv 0) (pv 1) rfl)
  (pss_cons (ps_fld (pv 0) (pv 2) rfl)
  (pss_one (ps_fld (pv 0) (pv 3) rfl)))), ?_⟩
    refine ⟨_, rfl, _, rfl, x, C, dx, [], rfl, hx, M'.cl, M'.rows, (by show 0 < 1000; decide), ?_⟩
    refine ⟨_, rfl, _, rfl, x, C, dx, _, rfl, upd_same, M'.cl, M'.worths, (by show 1 < 1000; decide), ?_⟩
    refine ⟨_, rfl, _, rfl, x, C, dx, _, rfl, upd_same, M'.cl, M'.end, (by show 2 < 1000; decide), ?_⟩
    exact k _ upd_same (((Pr.refl x H).at).at).at
end
end Rs
/-! placing.py: settle -/
namespace Rs
open PySem PySem.Spec PyProof.Rows L2 C8
/-- what of a row stays as it is read -/
def statR (R : Rm) : Int × Str × Str × List Int × List (List Pp) × Str := (R.row, R.label, R.op, R.boxes, R.sums, R.gives)
theorem stat_at {rows rows' : List Rm} (h : rows'.map statR = rows.map statR) {i : Nat} {R : Rm} (e : rows[i]? = some R) : ∃ R', rows'[i]? = some R' ∧ statR R' = statR R := by
  have e1 : (rows'.map statR)[i]? = some (statR R) := by rw [h, List.getElem?_map, e] <;> rfl
  obtain ⟨R', a, b⟩ := map_at e1
  exact ⟨R', a, b.symm⟩
theorem stat_mem {rows rows' : List Rm} (h : rows'.map statR = rows.map statR) {R : Rm} (e : R ∈ rows) : ∃ R' ∈ rows', statR R' = statR R := by
  obtain ⟨i, hi, rfl⟩ := List.mem_iff_getElem.mp e
  obtain ⟨R', a, b⟩ := stat_at h (List.getElem?_eq_getElem hi)
  exact ⟨R', List.mem_of_getElem? a, b⟩
theorem stat_place : ∀ (rows : List Rm) (p : Int), (placeM rows p).map statR = rows.map statR
  | [], _ => rfl
  | R :: r, p => by
    rw [placeM_cons, List.map_cons, List.map_cons, stat_place r]
    rfl
theorem stat_grown (m : List (Str × Int)) (rows : List Rm) : (grownM m rows).map statR = rows.map statR := by
  unfold grownM
  rw [List.map_map]
  refine List.map_congr_left fun R _ => ?_
  show statR (if growing m R = true then { R with long := true } else R) = statR R
  split <;> rfl
theorem stat_len {rows rows' : List Rm} (h : rows'.map statR = rows.map statR) : rows'.length = rows.length := by
  have := congrArg List.length h
  rw [List.length_map, List.length_map] at this
  exact this
section
variable {R R' : Rm} (h : statR R' = statR R)
include h
theorem st_label : R'.label = R.label := congrArg (fun z => z.2.1) h
theorem st_op : R'.op = R.op := congrArg (fun z => z.2.2.1) h
theorem st_sums : R'.sums = R.sums := congrArg (fun z => z.2.2.2.2.1) h
theorem st_gives : R'.gives = R.gives := congrArg (fun z => z.2.2.2.2.2) h
theorem st_sum0 : R'.sum0 = R.sum0 := by
  unfold Rm.sum0
  rw [st_sums h]
end
def ChainK (rows : List Rm) : List Nat → (Str → Prop) → Prop
  | [], _ => True
  | i :: r, ks => ∃ R, rows[i]? = some R ∧ R.op = ("is" : Str) ∧ (∀ n ∈ namesIn R.sum0, n ≠ ("here" : Str) → ks n) ∧ ChainK rows r (fun n => ks n ∨ n = R.gives)
def isLabel (rows : List Rm) (n : Str) : Prop := ∃ R ∈ rows, R.label = n ∧ n ≠ ""
/-- each name that stands in a sum is given, and the is rows' order leads from what is known -/
structure Keyed (rows : List Rm) (ord : List Nat) : Prop where
  chain : ChainK rows ord (isLabel rows)
  all : ∀ R ∈ rows, ∀ L ∈ R.sums, ∀ n ∈ namesIn L, n ≠ ("here" : Str) → isLabel rows n ∨ ∃ i ∈ ord, ∃ S, rows[i]? = some S ∧ S.gives = n
theorem chain_stat {rows rows' : List Rm} (h : rows'.map statR = rows.map statR) : ∀ (ord : List Nat) {ks ks' : Str → Prop}, (∀ n, ks n → ks' n) → ChainK rows ord ks → ChainK rows' ord ks'
  | [], _, _, _, _ => trivial
  | i :: r, ks, ks', hk, ⟨R, e, o, n, c⟩ => by
    obtain ⟨R', e', s⟩ := stat_at h e
    refine ⟨R', e', (st_op s).trans o, fun a ha hh => hk _ (n a (by rw [← st_sum0 s]; exact ha) hh), chain_stat h r (fun a ha => ?_) c⟩
    rw [st_gives s]
    exact ha.imp (hk a) id
theorem label_stat {rows rows' : List Rm} (h : rows'.map statR = rows.map statR) {n : Str} (k : isLabel rows n) : isLabel rows' n := by
  obtain ⟨R, m, e, z⟩ := k
  obtain ⟨R', m', s⟩ := stat_mem h m
  exact ⟨R', m', (st_label s).trans e, z⟩
theorem Keyed.stat {rows rows' : List Rm} {ord : List Nat} (k : Keyed rows ord) (h : rows'.map statR = rows.map statR) : Keyed rows' ord := by
  refine ⟨chain_stat h ord (fun n => label_stat h) k.chain, fun R hR L hL n hn hh => ?_⟩
  obtain ⟨R0, m0, s0⟩ := stat_mem h.symm hR
  rcases k.all R0 m0 L (by rw [st_sums s0]; exact hL) n hn hh with z | ⟨i, hi, S, e, g⟩
  · exact .inl (label_stat h z)
  · obtain ⟨S', e', s⟩ := stat_at h e
    exact .inr ⟨i, hi, S', e', (st_gives s).trans g⟩
theorem labels_some {n : Str} : ∀ (rows : List Rm) (m : List (Str × Int)), ((getL m n).isSome = true ∨ isLabel rows n) → (getL (labelsM rows m) n).isSome = true
  | [], m, h => by
    rcases h with h | ⟨R, hR, _⟩
    · exact h
    · cases hR
  | R :: r, m, h => by
    rw [labelsM_cons]
    refine labels_some r _ ?_
    rcases h with h | ⟨S, hS, e, z⟩
    · refine .inl ?_
      split
      · exact h
      · rw [getL_put]
        split
        · rfl
        · exact h
    · rcases List.mem_cons.mp hS with y | y
      · subst y
        refine .inl ?_
        rw [if_neg (by rw [e]; exact z), getL_put, if_pos e.symm] <;> rfl
      · exact .inr ⟨S, y, e, z⟩
theorem chain_ok {rows : List Rm} : ∀ (ord : List Nat) {ks : Str → Prop} {m : List (Str × Int)}, ChainK rows ord ks → (∀ n, ks n → (getL m n).isSome = true) → ChainOk rows ord m
  | [], _, _, _, _ => trivial
  | i :: r, ks, m, ⟨R, e, o, n, c⟩, hk => by
    refine ⟨R, e, o, fun a ha hh => Option.isSome_iff_exists.mp (hk a (n a ha hh)), chain_ok r c fun a ha => ?_⟩
    rw [getL_put]
    split
    · rfl
    · rcases ha with z | z
      · exact hk a z
      · exact absurd z (by assumption)
theorem Keyed.chainOk {rows : List Rm} {ord : List Nat} (k : Keyed rows ord) : ChainOk rows ord (labelsM rows []) := chain_ok ord k.chain fun n h => labels_some rows [] (.inr h)
theorem is_keep {rows : List Rm} {n : Str} : ∀ (ord : List Nat) (m : List (Str × Int)), (getL m n).isSome = true → (getL (isWorths rows ord m) n).isSome = true
  | [], m, h => h
  | i :: r, m, h => by
    show (getL (match rows[i]? with | none => isWorths rows r m | some R => isWorths rows r (putL m R.gives (worthM m R.place R.sum0))) n).isSome = true
    cases rows[i]? with
    | none => exact is_keep r m h
    | some R =>
      refine is_keep r _ ?_
      rw [getL_put]
      split
      · rfl
      · exact h
theorem is_gives {rows : List Rm} {S : Rm} {i : Nat} (e : rows[i]? = some S) : ∀ (ord : List Nat) (m : List (Str × Int)), i ∈ ord → (getL (isWorths rows ord m) S.gives).isSome = true
  | j :: r, m, h => by
    rcases List.mem_cons.mp h with z | z
    · subst z
      rw [isWorths_cons e]
      refine is_keep r _ ?_
      rw [getL_put, if_pos rfl] <;> rfl
    · show (getL (match rows[j]? with | none => isWorths rows r m | some R => isWorths rows r (putL m R.gives (worthM m R.place R.sum0))) S.gives).isSome = true
      cases rows[j]? with
      | none => exact is_gives e r m z
      | some R => exact is_gives e r _ z
theorem Keyed.known {rows : List Rm} {ord : List Nat} (k : Keyed rows ord) {R : Rm} (hR : R ∈ rows) {L : List Pp} (hL : L ∈ R.sums) : KnownL (worthsM rows ord) L := fun n hn hh => by
  refine Option.isSome_iff_exists.mp ?_
  unfold worthsM
  rcases k.all R hR L hL n hn hh with z | ⟨i, hi, S, e, g⟩
  · exact is_keep ord _ (labels_some rows [] (.inr z))
  · rw [← g]
    exact is_gives e ord _ hi
theorem sum0_mem {R : Rm} (h : R.sums.length = 1) : R.sum0 ∈ R.sums := by
  unfold Rm.sum0
  cases e : R.sums with
  | nil =>
    rw [e] at h
    cases h
  | cons L r => exact List.mem_cons_self
theorem grow_take {Rs : List Rm} {f : Rm → Bool} {i : Nat} {R : Rm} (e : Rs[i]? = some R) : ((Rs.zipIdx.take (i + 1)).filter (fun R : Ri => f R.1)).map (·.2) = ((Rs.zipIdx.take i).filter (fun R : Ri => f R.1)).map (·.2) ++ (if f R = true then [i] else []) := by
  have e2 : Rs.zipIdx[i]? = some (R, i) := by
    rw [List.getElem?_zipIdx, e] <;> simp
  rw [take_snoc e2, List.filter_append, List.filter_cons, List.filter_nil, List.map_append]
  by_cases q : f R = true
  · rw [if_pos q, if_pos q] <;> rfl
  · rw [if_neg q, if_neg q] <;> rfl
/-- the numbers of the rows that grow -/
def growIx (m : List (Str × Int)) (Rs : List Rm) : List Nat := (Rs.zipIdx.filter (fun R : Ri => growing m R.1)).map (·.2)
theorem growIx_mem {m : List (Str × Int)} {Rs : List Rm} {i : Nat} {R : Rm} (e : Rs[i]? = some R) : i ∈ growIx m Rs ↔ growing m R = true := by
  constructor
  · intro h
    obtain ⟨S, hS, rfl⟩ := List.mem_map.mp h
    obtain ⟨h1, h2⟩ := List.mem_filter.mp hS
    have := zipIdx_at h1
    rw [this] at e
    cases e
    exact h2
  · intro h
    refine List.mem_map.mpr ⟨(R, i), List.mem_filter.mpr ⟨?_, h⟩, rfl⟩
    refine List.mem_of_getElem? (i := i) ?_
    rw [List.getElem?_zipIdx, e] <;> simp
theorem growIx_nil {m : List (Str × Int)} {Rs : List Rm} : growIx m Rs = [] ↔ Rs.any (growing m) = false := by
  constructor
  · intro h
    rw [Bool.eq_false_iff]
    intro z
    obtain ⟨R, hR, g⟩ := List.any_eq_true.mp z
    obtain ⟨i, hi, rfl⟩ := List.mem_iff_getElem.mp hR
    have := (growIx_mem (m := m) (List.getElem?_eq_getElem hi)).mpr g
    rw [h] at this
    cases this
  · intro h
    cases e : growIx m Rs with
    | nil => rfl
    | cons i r =>
      have hi : i ∈ growIx m Rs := by rw [e]; exact List.mem_cons_self
      obtain ⟨S, hS, z⟩ := List.mem_map.mp hi
      obtain ⟨h1, h2⟩ := List.mem_filter.mp hS
      have h3 := List.mem_of_getElem? (zipIdx_at h1)
      have : Rs.any (growing m) = true := List.any_eq_true.mpr ⟨S.1, h3, h2⟩
      rw [h] at this
      cases this
section
variable {P : Program} {w : World} {K : PySem.W.Frag} {mg : Str → Option Value} {base : Heap} {C CP : Addr}
def spSettle (C CP : Addr) : Sp := fun vs H Q _ => ∃ (r o : Addr) (I : Hp) (xs os : List Addr) (Rs : List Rm) (ord : List Nat) (n : Nat) (pg : Pg), vs = [.ref r, .ref o] ∧ H r = some (.lst (xs.map V.ref)) ∧ H o = some (.lst (os.map V.ref)) ∧ RowsAt C I H xs Rs ∧ Al (fun a i => xs[i]? = some a) os ord ∧ Rs.length ≤ 1000 ∧ ord.length ≤ 1000 ∧ (∀ R ∈ Rs, R.label.length ≤ 200000) ∧ Keyed Rs ord ∧ settleM n Rs ord = some pg ∧
  ∀ (H' : Hp) (x dx d : Addr), RowsAt C I H' xs pg.rows → KpS xs H H' → H' x = some (.ins CP dx (pgf r d pg.stop)) → H' d = some (.dK (kv V.int pg.worths)) → H x = none → H d = none → pg.rows.map statR = Rs.map statR → pg.worths = worthsM pg.rows ord → Q (.ref x) H'
theorem ok_settle (D : DefAt K mg "settle" sD_settle) (T : Txt w K mg) (MR : TxtR K C) (c_set_places : Cal P w K mg base 3 "set_places" (spPlaces C) []) (c_worths_at : Cal P w K mg base 2 "worths_at" (spWorths C) []) (c_is_growing : Cal P w K mg base 2 "is_growing" (spGrowing C) []) (c_Page : Mak P w K mg base 1 "Page" CP (spInitP CP) []) : Cal P w K mg base 4 "settle" (spSettle C CP) [] := by
  refine cal_of D sc_settle (fun _ _ _ _ _ _ us hl => match us, hl with | [_, _], _ => rfl) (fun vs H Q E h => ?_) (fun cdv A outer s H vs Q E hr h => ?_)
  · obtain ⟨r, o, I, xs, os, Rs, ord, n, pg, rfl, _⟩ := h
    rfl
  · obtain ⟨r, o, I, xs, os, Rs, ord, n, pg, rfl, hl, ho, hR, hos, hz, hz2, hz3, hK, hS, k⟩ := h
    refine ⟨_, (pss_one (ps_while PassesOwn.never (pt_val pe_bl)
   (pss_cons (ps_set (i := 2) sc_settle.nd rfl (Or.inl rfl) (pe_c c_set_places hr (by decide) (by rfl) (pa_cons (pv 0) pa_nil)))
  (pss_cons (ps_set (i := 3) sc_settle.nd rfl (Or.inr rfl) (pe_c c_worths_at hr (by decide) (by rfl) (pa_cons (pv 0) (pa_cons (pv 1) pa_nil))))
  (pss_cons (ps_setLc (i := 4) (own := [("row", 5)]) (g := gName 5) (by rfl) sc_settle.nd rfl rfl (sw_true rfl rfl rfl (by decide +kernel)) (pi_list (pv 0)) (blkOk_by (own := [("row", 5)]) (N := N_settle) (sc := defScope sD_settle) (by decide +kernel)) (fun _ _ _ _ _ => (pg_name (i := 5) sc_settle.nd rfl (Or.inl rfl))) (fun _ _ _ _ _ => (pts_one (pt_val (pe_c c_is_growing hr (by decide) (by rfl) (pa_cons (pv 5) (pa_cons (pv 3) pa_nil)))))) (fun _ _ _ _ _ => (pv 5)))
  (pss_cons (ps_if (pt_not (pt_truth (pv 4) (by intro _; rfl)))
   (pss_one (ps_ret (pe_mk c_Page hr (by decide) (by rfl) (pa_cons (pv 0) (pa_cons (pv 3) (pa_cons (pv 2) pa_nil))))))
   pss_nil)
  (pss_one (ps_for PassesOwn.never rfl (pi_list (pv 4)) (pg_name (i := 5) sc_settle.nd rfl (Or.inl rfl))
   (pss_one (ps_fld (pv 5) pe_bl rfl)))))))))), ?_⟩
    have hlx : xs.length = Rs.length := hR.at_.1
    refine ⟨fun n σ H' => ∃ (Rs' : List Rm) (y2 y3 y4 y5 : Option V), σ = [some (.ref r), some (.ref o), y2, y3, y4, y5] ∧ RowsAt C I H' xs Rs' ∧ KpS xs H H' ∧ settleM n Rs' ord = some pg ∧ Rs'.map statR = Rs.map statR, ⟨n, Rs, _, _, _, _, rfl, hR, KpS.refl _ _, hS, rfl⟩, ?_⟩
    rintro n σ H1 ⟨Rs', y2, y3, y4, y5, rfl, h1, k1, g1, st1⟩
    refine ⟨_, rfl, iteT ?_⟩
    cases n with
    | zero => cases g1
    | succ n =>
      have g1 : (if (placeM Rs' 0).any (growing (worthsM (placeM Rs' 0) ord)) = true then settleM n (grownM (worthsM (placeM Rs' 0) ord) (placeM Rs' 0)) ord else some ⟨placeM Rs' 0, worthsM (placeM Rs' 0) ord, endM Rs' 0⟩) = some pg := g1
      refine ⟨fun σ' H' => ∃ (Rs' : List Rm) (y2 y3 y4 y5 : Option V), σ' = [some (.ref r), some (.ref o), y2, y3, y4, y5] ∧ RowsAt C I H' xs Rs' ∧ KpS xs H H' ∧ settleM n Rs' ord = some pg ∧ Rs'.map statR = Rs.map statR, fun σ' H' h => ⟨n, Nat.lt_succ_self _, h⟩, ?_⟩
      refine ⟨_, rfl, r, I, xs, Rs', rfl, hR.lst hl k1, h1, fun H2 h2 k2 => ?_⟩
      have k12 := k1.trans k2
      have st2 : (placeM Rs' 0).map statR = Rs.map statR := (stat_place Rs' 0).trans st1
      generalize placeM Rs' 0 = Rp at h2 st2 g1
      have hKp := hK.stat st2
      have lp : Rp.length = Rs.length := stat_len st2
      refine ⟨_, rfl, _, rfl, r, o, I, xs, os, Rp, ord, rfl, hR.lst hl k12, hR.lst ho k12, h2, hos, by omega, hz2, fun R hm => ?_, hKp.chainOk, fun H3 d s3 hd0 hd => ?_⟩
      · obtain ⟨R0, m0, s0⟩ := stat_mem st2.symm hm
        rw [← st_label s0]
        exact hz3 R0 m0
      have h3 := h2.same s3
      have k13 := k12.trans (Same.kps s3 xs)
      have hdH : H d = none := by
        cases e : H d with
        | none => rfl
        | some ob =>
          by_cases mx : d ∈ xs
          · obtain ⟨dx, fs, e2⟩ := h2.obj mx
            rw [hd0] at e2
            cases e2
          · have := k12 _ _ e mx
            rw [hd0] at this
            cases this
      generalize hm : worthsM Rp ord = m at hd g1
      -- those that grow
      have hl3 := hR.lst hl k13
      refine ⟨_, rfl, r, rfl, ⟨_, SqL.of hl3⟩, fun gl hgl => ?_⟩
      refine lc_list (K := K) (a := r) (xs := xs.map V.ref) (fun i H' => Same H3 H' ∧ ∃ gs : List Addr, H' gl = some (.lst (gs.map V.ref)) ∧ gs.length ≤ i ∧ Al (fun a i => xs[i]? = some a) gs (((Rp.zipIdx.take i).filter (fun R : Ri => growing m R.1)).map (·.2))) ⟨Same.new hgl, [], upd_same, Nat.zero_le _, Al.nil⟩ (fun i H' _ ⟨z, _⟩ => SqL.of (z _ _ hl3)) ?_ ?_
      · rintro i v H4 hv ⟨s4, gs, h4, l4, a4⟩
        obtain ⟨x, ex, rfl⟩ := map_at hv
        have h4' := h3.same s4
        obtain ⟨R, dx, b, sa, t, eR, hx, hmm⟩ := h4'.get ex
        have hi2 : i < 1000 := by
          have := (List.getElem?_eq_some_iff.mp eR).1
          omega
        have et := grow_take (f := growing m) eR
        refine ⟨rfl, _, rfl, _, rfl, x, d, R, m, rfl, h4'.now ex eR, s4 _ _ hd, fun q => ?_, _, rfl, ?_⟩
        · rw [← hm]
          exact hKp.known (List.mem_of_getElem? eR) (sum0_mem (wf_take hmm.wf q).2)
        · by_cases q : growing m R = true
          · rw [if_pos q] at et
            rw [q]
            refine iteT ⟨_, rfl, _, h4, ?_, s4.putNew hgl, gs ++ [x], ?_, by rw [List.length_append]; exact Nat.succ_le_succ l4, ?_⟩
            · rw [List.length_map]
              exact Nat.lt_of_le_of_lt (show gs.length ≤ 1000 by omega) (by decide)
            · rw [upd_same, List.map_append] <;> rfl
            · rw [et]
              exact a4.snoc ex
          · rw [if_neg q, List.append_nil] at et
            rw [show growing m R = false by simpa using q]
            exact iteF ⟨s4, gs, h4, Nat.le_succ_of_le l4, by rw [et]; exact a4⟩
      rintro H4 ⟨s4, gs, h4, l4, a4⟩
      have hall : ((Rp.zipIdx.take (xs.map V.ref).length).filter (fun R : Ri => growing m R.1)).map (·.2) = growIx m Rp := by
        rw [List.length_map, hlx, ← lp, List.take_of_length_le (by rw [List.length_zipIdx]; exact Nat.le_refl _)] <;> rfl
      rw [hall] at a4
      have hh4 := h3.same s4
      have k14 := k13.trans (Same.kps s4 xs)
      have d4 := s4 _ _ hd
      refine ⟨_, rfl, !(gs.map V.ref).isEmpty, .inl ⟨_, SqL.of h4, rfl⟩, ?_⟩
      by_cases hg0 : growIx m Rp = []
      · have e0 : gs = [] := List.eq_nil_of_length_eq_zero (by rw [a4.1, hg0] <;> rfl)
        rw [e0]
        rw [if_neg (by rw [growIx_nil.mp hg0]; decide)] at g1
        cases g1
        refine iteT ⟨_, rfl, _, rfl, _, rfl, fun x dx nx ndx nex => ⟨x, dx, r, d, endM Rs' 0, rfl, upd_same, fun H5 hx pr => ⟨rfl, ?_⟩⟩⟩
        have s45 : Same H4 (upd (upd H4 dx (.own x)) x (.ins CP dx [])) := fun q ob e => by
          rw [upd_ne (ne_of_none e nx), upd_ne (ne_of_none e ndx)]
          exact e
        have s5 : Same H4 H5 := fun q ob e => pr q ob (s45 q ob e) (ne_of_none e nx)
        have hxH : H x = none := by
          cases e : H x with
          | none => rfl
          | some ob =>
            by_cases mx : x ∈ xs
            · obtain ⟨dx, fs, e2⟩ := hh4.obj mx
              rw [nx] at e2
              cases e2
            · have := k14 _ _ e mx
              rw [nx] at this
              cases this
        exact k H5 x dx d (hh4.same s5) (k14.trans (Same.kps s5 xs)) hx (s5 _ _ d4) hxH hdH st2 hm.symm
      · have e0 : (!(gs.map V.ref).isEmpty) = true := by
          cases gs with
          | nil =>
            have := a4.1
            exact absurd (List.eq_nil_of_length_eq_zero this.symm) hg0
          | cons _ _ => rfl
        rw [e0]
        have hany : Rp.any (growing m) = true := by
          cases e : Rp.any (growing m) with
          | true => rfl
          | false => exact absurd (growIx_nil.mpr e) hg0
        rw [if_pos hany] at g1
        refine iteF ⟨_, rfl, gl, rfl, ⟨_, SqL.of h4⟩, for_it (walk_list (K := K) (a := gl) (xs := gs.map V.ref)) (fun j σ H' => ∃ (Rq : List Rm) (y5 : Option V), σ = [some (.ref r), some (.ref o), some (.int (endM Rs' 0)), some (.ref d), some (.ref gl), y5] ∧ RowsAt C I H' xs Rq ∧ KpS xs H4 H' ∧ Rq.length = Rp.length ∧ ∀ (i : Nat) (R : Rm), Rp[i]? = some R → Rq[i]? = some (if i ∈ (growIx m Rp).take j then { R with long := true } else R)) ⟨Rp, _, rfl, hh4, KpS.refl _ _, rfl, fun i R e => by rw [e, List.take_zero, if_neg (List.not_mem_nil)]⟩ (fun j σ H' _ ⟨_, _, _, _, z, _⟩ => SqL.of (hh4.lst h4 z)) ?_ ?_⟩
        · rintro j v σ H5 H6 hj ⟨Rq, y5, rfl, h6, k6, l6, a6⟩ ⟨rfl, hv⟩
          obtain ⟨x, ex, rfl⟩ := map_at hv
          obtain ⟨i, ei, p1⟩ := a4.get ex
          obtain ⟨R, dx, b, sa, t, eR, hx, hmm⟩ := h6.get p1
          refine ⟨_, rfl, x, C, dx, rfm R b sa t, rfl, hx, MR.cl, MR.long, (by show 10 < 1000; decide), ?_⟩
          have hm' : RowIm I b sa t { R with long := true } := ⟨hmm.b, hmm.s, hmm.t, hmm.sg, hmm.wf, hmm.few, hmm.lab, hmm.gv⟩
          refine ⟨Rq.set i { R with long := true }, _, rfl, h6.set (dx := dx) p1 hm', k6.at (List.mem_of_getElem? p1), by rw [List.length_set, l6], fun i2 R2 e2 => ?_⟩
          rw [take_snoc ei]
          by_cases q : i = i2
          · subst q
            have hlt := (List.getElem?_eq_some_iff.mp eR).1
            rw [List.getElem?_set_self hlt, if_pos (List.mem_append_right _ List.mem_cons_self)]
            have := a6 i R2 e2
            rw [eR] at this
            have e3 := Option.some.inj this
            rw [e3]
            split <;> rfl
          · rw [List.getElem?_set_ne q, a6 i2 R2 e2]
            have : (i2 ∈ (growIx m Rp).take j ++ [i]) ↔ i2 ∈ (growIx m Rp).take j := by
              rw [List.mem_append, List.mem_singleton]
              exact ⟨fun z => z.resolve_right (Ne.symm q), .inl⟩
            simp only [this]
        · rintro σ H5 ⟨Rq, y5, rfl, h6, k6, l6, a6⟩
          rw [List.length_map, a4.1, List.take_length] at a6
          have e1 : Rq = grownM m Rp := by
            refine List.ext_getElem? fun i => ?_
            unfold grownM
            rw [List.getElem?_map]
            cases e2 : Rp[i]? with
            | none =>
              have : Rp.length ≤ i := List.getElem?_eq_none_iff.mp e2
              rw [List.getElem?_eq_none_iff.mpr (by omega)] <;> rfl
            | some R =>
              rw [a6 i R e2]
              show some _ = some (if growing m R = true then { R with long := true } else R)
              by_cases q : growing m R = true
              · rw [if_pos ((growIx_mem e2).mpr q), if_pos q]
              · rw [if_neg (fun z => q ((growIx_mem e2).mp z)), if_neg q]
          rw [e1] at h6
          exact ⟨grownM m Rp, _, _, _, _, rfl, h6, k14.trans k6, g1, (stat_grown m Rp).trans st2⟩
end
end Rs
/-! reading.py: frames, sums, rows filled in, by the plain functions -/
namespace Rs
open PySem PySem.Spec PyProof.Rows L2 C8
/-- a frame as it lies -/
structure FvIs (H : Hp) (G : Fv) (F : Fm) : Prop where
  row : G.row = F.row
  reach : G.reach = (F.reach : Int)
  own : G.own = F.own
  boxes : G.boxes = kv V.int F.boxes
  sums : ∃ ts : List Addr, Al (SmAt H) ts (F.sums.map (·.2)) ∧ G.sums = List.zipWith (fun e t => (Sum.inr e.1, V.ref t)) F.sums ts
  sg : ∀ e ∈ F.sums, SgOk e.2
theorem FvIs.mono {H H' : Hp} {G : Fv} {F : Fm} (h : FvIs H G F) (k : ∀ t L, SmAt H t L → SmAt H' t L) : FvIs H' G F := by
  obtain ⟨ts, a, b⟩ := h.sums
  exact ⟨h.row, h.reach, h.own, h.boxes, ⟨ts, a.mono k, b⟩, h.sg⟩
theorem FvIs.same {H H' : Hp} {G : Fv} {F : Fm} (h : FvIs H G F) (k : Same H H') : FvIs H' G F := h.mono fun t L z => z.mono k
theorem zip_get {H : Hp} (a : Str) : ∀ (m : List (Str × List Pp)) (ts : List Addr), Al (SmAt H) ts (m.map (·.2)) →
    (∀ L, getL m a = some L → ∃ t, valV (List.zipWith (fun (e : Str × List Pp) t => ((Sum.inr e.1 : Key), V.ref t)) m ts) (Sum.inr a) = some (.ref t) ∧ SmAt H t L) ∧ (getL m a = none → valV (List.zipWith (fun (e : Str × List Pp) t => ((Sum.inr e.1 : Key), V.ref t)) m ts) (Sum.inr a) = none)
  | [], ts, h => ⟨fun L z => (by cases z), fun _ => (by rw [List.zipWith_nil_left] <;> rfl)⟩
  | e :: r, [], h => by
    have := h.1
    cases this
  | e :: r, t :: ts, h => by
    have h2 : Al (SmAt H) ts (r.map (·.2)) := ⟨Nat.succ.inj h.1, fun i x y a b => h.2 (i + 1) x y a b⟩
    obtain ⟨ih1, ih2⟩ := zip_get a r ts h2
    rw [getL_cons, List.zipWith_cons_cons]
    by_cases q : e.1 = a
    · rw [if_pos q, valV_pos (show ((Sum.inr e.1 : Key), V.ref t).1 = Sum.inr a from congrArg Sum.inr q)]
      refine ⟨fun L z => ⟨t, rfl, ?_⟩, fun z => (by cases z)⟩
      have := h.2 0 t e.2 rfl rfl
      rw [Option.some.inj z] at this
      exact this
    · rw [if_neg q, valV_neg (show ¬ ((Sum.inr e.1 : Key), V.ref t).1 = Sum.inr a from fun z => q (Sum.inr.inj z))]
      exact ⟨ih1, ih2⟩
section
variable {H : Hp} {G : Fv} {F : Fm} (h : FvIs H G F)
include h
theorem box_val (a : Str) : valV G.boxes (Sum.inr a) = (getL F.boxes a).map V.int := by rw [h.boxes, kv_get]
theorem isBox_m (a : Str) : isBox G a = isBoxM F a := by
  unfold isBox isBoxM
  rw [box_val h]
  cases getL F.boxes a <;> rfl
theorem name_m {a n : Str} (e : nameM F a = .ok n) : NameIs G a n := by
  unfold nameM at e
  by_cases q : isName a = true
  · rw [if_pos q] at e
    exact .inl ⟨q, (Except.ok.inj e).symm⟩
  · rw [if_neg q] at e
    by_cases z : F.own ≠ "" ∧ isOwn a = true
    · rw [if_pos z] at e
      exact .inr ⟨by simpa using q, by rw [h.own]; exact z.1, z.2, by rw [h.own]; exact (Except.ok.inj e).symm⟩
    · rw [if_neg z] at e
      cases e
theorem box_m {a : Str} {n : Int} (e : boxM F a = .ok n) : BoxIs G a n := by
  unfold boxM at e
  cases q : getL F.boxes a with
  | some m =>
    rw [q] at e
    refine .inl ?_
    rw [box_val h, q, Except.ok.inj e] <;> rfl
  | none =>
    simp only [q] at e
    refine .inr ⟨by rw [box_val h, q] <;> rfl, ?_⟩
    cases z : getL boxVals a with
    | some m =>
      simp only [z] at e
      rw [← Except.ok.inj e]
      exact getL_mem z
    | none =>
      simp only [z] at e
      cases e
end
theorem not_lt_one {a c : Nat} : (¬ ([c] : List Nat) < [a]) ↔ a ≤ c := by
  constructor
  · intro h
    rcases Nat.lt_or_ge c a with z | z
    · exact absurd (List.Lex.rel z) h
    · exact z
  · intro h z
    cases z with
    | rel y => omega
    | cons y => cases y
theorem figs_int {a : Str} (h : isFigures a = true) : ∃ n : Int, PySem.intText? a = some n := by
  unfold isFigures at h
  rw [Bool.and_eq_true, Bool.and_eq_true] at h
  obtain ⟨h1, h2, h3⟩ := h
  have h1 := of_decide_eq_true h1
  obtain ⟨c⟩ := a
  have hl : (({ cps := c } : Str).length) = c.toList.length := by
    show c.size = _
    simp
  rw [hl] at h1
  rw [show ({ cps := c } : Str) = SX.S c.toList from by simp [SX.S]]
  refine ⟨_, SX.int_S (a := c.toList) ?_ ?_ ?_⟩
  · refine List.all_eq_true.mpr fun x hx => ?_
    have := List.all_eq_true.mp h3 x hx
    unfold between at this
    rw [Bool.and_eq_true, Bool.not_eq_true', Bool.not_eq_true', decide_eq_false_iff_not, decide_eq_false_iff_not] at this
    have l1 := not_lt_one.mp (show ¬ ([x] : List Nat) < [48] from this.1)
    have l2 : x ≤ 57 := not_lt_one.mp (show ¬ ([57] : List Nat) < [x] from this.2)
    rw [decide_eq_true l1, decide_eq_true l2] <;> rfl
  · intro z
    rw [z] at h1
    exact absurd h1.1 (by decide)
  · omega
section
variable {H : Hp} {G : Fv} {F : Fm} (h : FvIs H G F)
include h
theorem part_m {a : Str} {L : List Pp} (e : partM F a = .ok L) : PartIs H G a L := by
  unfold partM at e
  by_cases q1 : isFigures a = true
  · rw [if_pos q1] at e
    obtain ⟨n, hn⟩ := figs_int q1
    rw [hn] at e
    exact .inl ⟨q1, n, hn, (Except.ok.inj e).symm⟩
  rw [if_neg q1] at e
  have q1' : isFigures a = false := by simpa using q1
  by_cases q2 : a = ("here" : Str)
  · rw [if_pos q2] at e
    exact .inr (.inl ⟨q1', q2, (Except.ok.inj e).symm⟩)
  rw [if_neg q2] at e
  by_cases q3 : (getL F.boxes a).isSome = true
  · rw [if_pos q3] at e
    cases e
  rw [if_neg q3] at e
  have nb : valV G.boxes (Sum.inr a) = none := by
    rw [box_val h]
    cases z : getL F.boxes a with
    | none => rfl
    | some m =>
      rw [z] at q3
      exact absurd rfl q3
  refine .inr (.inr ⟨q1', q2, nb, ?_⟩)
  obtain ⟨ts, al, es⟩ := h.sums
  obtain ⟨z1, z2⟩ := zip_get a F.sums ts al
  rw [← es] at z1 z2
  cases q4 : getL F.sums a with
  | some L2 =>
    simp only [q4] at e
    obtain ⟨t, y1, y2⟩ := z1 L2 q4
    rw [Except.ok.inj e] at y2
    exact .inl ⟨t, y1, y2⟩
  | none =>
    simp only [q4] at e
    cases q5 : nameM F a with
    | error z =>
      simp only [q5] at e
      cases e
    | ok n =>
      simp only [q5] at e
      exact .inr ⟨z2 q4, n, name_m h q5, (Except.ok.inj e).symm⟩
theorem part_sg {a : Str} {L : List Pp} (e : partM F a = .ok L) : ∀ p ∈ L, p.1 = 1 ∨ p.1 = -1 := by
  unfold partM at e
  have one : ∀ {k : Key} {L : List Pp}, (.ok [((1 : Int), k)] : Re (List Pp)) = .ok L → ∀ p ∈ L, p.1 = 1 ∨ p.1 = -1 := fun {k L} z p hp => by
    rw [← Except.ok.inj z] at hp
    rw [List.mem_singleton.mp hp]
    exact .inl rfl
  by_cases q1 : isFigures a = true
  · rw [if_pos q1] at e
    exact one e
  rw [if_neg q1] at e
  by_cases q2 : a = ("here" : Str)
  · rw [if_pos q2] at e
    exact one e
  rw [if_neg q2] at e
  by_cases q3 : (getL F.boxes a).isSome = true
  · rw [if_pos q3] at e
    cases e
  rw [if_neg q3] at e
  cases q4 : getL F.sums a with
  | some L2 =>
    simp only [q4] at e
    have := h.sg _ (getL_mem q4)
    rw [Except.ok.inj e] at this
    exact this.1
  | none =>
    simp only [q4] at e
    cases q5 : nameM F a with
    | error z =>
      simp only [q5] at e
      cases e
    | ok n =>
      simp only [q5] at e
      exact one e
end
theorem go_len : ∀ (l : List Nat) (sign : Int) (part : Str) (acc : List Pc) (b : Nat), part.length + l.length ≤ b → (∀ e ∈ acc, e.2.length ≤ b) → ∀ e ∈ splitGo l sign part acc, e.2.length ≤ b
  | [], sign, part, acc, b, h, ha, e, he => by
    rw [splitGo_nil] at he
    rcases List.mem_append.mp he with z | z
    · exact ha e z
    · rw [List.mem_singleton.mp z]
      simpa using h
  | c :: r, sign, part, acc, b, h, ha, e, he => by
    rw [splitGo_cons] at he
    rw [List.length_cons] at h
    by_cases q : c = 43 ∨ c = 45
    · rw [if_pos q] at he
      refine go_len r _ _ _ b (by show 0 + r.length ≤ b; omega) (fun f hf => ?_) e he
      rcases List.mem_append.mp hf with z | z
      · exact ha f z
      · rw [List.mem_singleton.mp z]
        show part.length ≤ b
        omega
    · rw [if_neg q] at he
      exact go_len r _ _ _ b (by rw [str_len_app]; omega) ha e he
theorem splitSum_len (a : Str) : ∀ e ∈ splitSum a, e.2.length ≤ a.length := by
  refine go_len _ _ _ _ _ ?_ (fun e he => by cases he)
  have := rmp_len a "-"
  show 0 + _ ≤ _
  rw [Nat.zero_add, Array.length_toList]
  exact this
theorem flat_go (f : Pc → List Pp → Prop) : ∀ (l : List Pc) (Ls : List (List Pp)) (Ms : List (List Pp)), Al (fun (e : Pc) M => ∃ L, f e L ∧ M = scaled e.1 L) l Ms → ∃ Ls, Al f l Ls ∧ sumGo l Ls = Ms.flatten
  | [], _, Ms, h => by
    have : Ms = [] := List.eq_nil_of_length_eq_zero h.1.symm
    subst this
    exact ⟨[], Al.nil, rfl⟩
  | e :: l, Ls, Ms, h => by
    cases Ms with
    | nil =>
      have := h.1
      cases this
    | cons M Ms =>
      obtain ⟨L, f1, e1⟩ := h.2 0 e M rfl rfl
      obtain ⟨Ls2, a2, e2⟩ := flat_go f l Ls Ms ⟨Nat.succ.inj h.1, fun i x y p q => h.2 (i + 1) x y p q⟩
      refine ⟨L :: Ls2, ⟨by rw [List.length_cons, List.length_cons, a2.1], fun i x y p q => ?_⟩, ?_⟩
      · cases i with
        | zero =>
          cases p
          cases q
          exact f1
        | succ i => exact a2.2 i x y p q
      · rw [sumGo_cons, e2, e1, List.flatten_cons]
theorem sum_m {H : Hp} {G : Fv} {F : Fm} (h : FvIs H G F) {a : Str} {L : List Pp} (hz : a.length ≤ 640) (e : sumM F a = .ok L) : (∃ Ls, SumIs H G a Ls ∧ sumGo (splitSum a) Ls = L) ∧ SgOk L := by
  unfold sumM at e
  cases q : mapE (partS F) (splitSum a) with
  | error z =>
    rw [q] at e
    cases e
  | ok Ms =>
    rw [q] at e
    have e : (if Ms.flatten.length > 24 then (.error (F.row, "long") : Re (List Pp)) else .ok Ms.flatten) = .ok L := e
    by_cases q2 : Ms.flatten.length > 24
    · rw [if_pos q2] at e
      cases e
    rw [if_neg q2] at e
    have eL := Except.ok.inj e
    have al := mapE_al q
    have al2 : Al (fun (e : Pc) M => ∃ L, (partM F e.2 = .ok L) ∧ M = scaled e.1 L) (splitSum a) Ms := al.mono fun e M z => by
      unfold partS at z
      cases y : partM F e.2 with
      | error x =>
        simp only [y] at z
        cases z
      | ok L =>
        simp only [y] at z
        exact ⟨L, rfl, (Except.ok.inj z).symm⟩
    obtain ⟨Ls, a3, e3⟩ := flat_go (fun e L => partM F e.2 = .ok L) (splitSum a) [] Ms al2
    refine ⟨⟨Ls, ⟨a3.1.symm, fun i e Li e1 e2 => ⟨?_, part_m h (a3.2 i e Li e1 e2)⟩, by rw [e3]; omega⟩, e3.trans eL⟩, fun p hp => ?_, by rw [← eL]; omega⟩
    · exact Nat.le_trans (splitSum_len a e (List.mem_of_getElem? e1)) hz
    · rw [← eL] at hp
      obtain ⟨M, hM, hp⟩ := List.mem_flatten.mp hp
      obtain ⟨i, hi, rfl⟩ := List.mem_iff_getElem.mp hM
      obtain ⟨e, ee, L2, f2, eM⟩ := al2.get' (List.getElem?_eq_getElem hi)
      rw [eM] at hp
      obtain ⟨q, hq, rfl⟩ := List.mem_map.mp hp
      have s1 := splitSum_sign a e (List.mem_of_getElem? ee)
      have s2 := part_sg h f2 q hq
      show e.1 * q.1 = 1 ∨ e.1 * q.1 = -1
      rcases s1 with z | z <;> rcases s2 with y | y <;> rw [z, y] <;> decide
/-- a list of sums -/
theorem sums_m {H : Hp} {G : Fv} {F : Fm} (h : FvIs H G F) : ∀ {zs : List Str} {ss : List (List Pp)}, (∀ z ∈ zs, z.length ≤ 640) → mapE (sumM F) zs = .ok ss → (∃ Ps : List (List (List Pp)), Al (fun z L => z.length ≤ 100000 ∧ SumIs H G z L) zs Ps ∧ sumsOf zs Ps = ss) ∧ ∀ L ∈ ss, SgOk L
  | [], ss, _, e => by
    have : ss = [] := (Except.ok.inj e).symm
    subst this
    exact ⟨⟨[], Al.nil, rfl⟩, fun L hL => by cases hL⟩
  | z :: zs, ss, hz, e => by
    obtain ⟨b, bs, e1, e2, rfl⟩ := mapE_cons e
    obtain ⟨⟨Ls, s1, s2⟩, s3⟩ := sum_m h (hz z List.mem_cons_self) e1
    obtain ⟨⟨Ps, a1, a2⟩, a3⟩ := sums_m h (fun y hy => hz y (List.mem_cons_of_mem _ hy)) e2
    refine ⟨⟨Ls :: Ps, ⟨by rw [List.length_cons, List.length_cons, a1.1], fun i x y p q => ?_⟩, ?_⟩, fun L hL => ?_⟩
    · cases i with
      | zero =>
        cases p
        cases q
        exact ⟨Nat.le_trans (hz z List.mem_cons_self) (by decide), s1⟩
      | succ i => exact a1.2 i x y p q
    · unfold sumsOf at a2 ⊢
      rw [List.zipWith_cons_cons, a2, s2]
    · rcases List.mem_cons.mp hL with y | y
      · rw [y]
        exact s3
      · exact a3 L y
end Rs
/-! reading.py: fill_row, hand, by the plain functions -/
namespace Rs
open PySem PySem.Spec PyProof.Rows L2 C8
theorem shape_m {o : Str} {nb nn : Nat} (h : shapeM o = some (nb, nn)) : Shape o nb nn := by
  unfold shapeM at h
  by_cases q : o = ("take" : Str)
  · rw [if_pos q] at h
    cases h
    rw [q]
    exact .inl (by decide)
  rw [if_neg q] at h
  by_cases q2 : o = ("at" : Str) ∨ o = ("room" : Str)
  · rw [if_pos q2] at h
    cases h
    rcases q2 with z | z <;> rw [z] <;> exact .inl (by decide)
  rw [if_neg q2] at h
  cases e : codes.find? (fun c => decide (c.1.str = o)) with
  | none =>
    rw [e] at h
    cases h
  | some c =>
    rw [e] at h
    obtain ⟨m, ec⟩ := code_kd e
    cases h
    refine .inr ⟨fun z => ?_, c, m, ec, rfl, rfl⟩
    rcases List.mem_cons.mp z with y | y
    · exact q y
    · rcases List.mem_cons.mp y with y | y
      · exact q2 (.inl y)
      · exact q2 (.inr (List.mem_singleton.mp y))
theorem letters_ne {a : Str} {m : Int} (h : isLetters a m = true) : a ≠ "" := fun z => by
  unfold isLetters at h
  rw [Bool.and_eq_true] at h
  have := (of_decide_eq_true h.1).1
  rw [z] at this
  exact absurd this (by decide)
theorem name_ne {F : Fm} {a n : Str} (h : nameM F a = .ok n) : n ≠ "" := by
  unfold nameM at h
  by_cases q : isName a = true
  · rw [if_pos q] at h
    rw [← Except.ok.inj h]
    unfold isName at q
    rw [Bool.and_eq_true] at q
    exact letters_ne q.1
  · rw [if_neg q] at h
    by_cases z : F.own ≠ "" ∧ isOwn a = true
    · rw [if_pos z] at h
      rw [← Except.ok.inj h]
      intro y
      have e1 : (a.cps ++ F.own.cps).size = 0 := by
        show (a ++ F.own).cps.size = 0
        rw [y] <;> rfl
      rw [Array.size_append] at e1
      refine z.1 ?_
      have e2 : F.own.cps = #[] := by
        have : F.own.cps.size = 0 := by omega
        simpa using this
      have : F.own = ⟨#[]⟩ := by
        rw [← e2]
      rw [this] <;> rfl
    · rw [if_neg z] at h
      cases h
theorem name_len {F : Fm} {a n : Str} (hz : a.length ≤ 640) (ho : F.own.length ≤ 100000) (h : nameM F a = .ok n) : n.length ≤ 200000 := by
  unfold nameM at h
  by_cases q : isName a = true
  · rw [if_pos q] at h
    rw [← Except.ok.inj h]
    omega
  · rw [if_neg q] at h
    by_cases z : F.own ≠ "" ∧ isOwn a = true
    · rw [if_pos z] at h
      rw [← Except.ok.inj h]
      show (a.cps ++ F.own.cps).size ≤ 200000
      rw [Array.size_append]
      have h1 : a.cps.size ≤ 640 := hz
      have h2 : F.own.cps.size ≤ 100000 := ho
      omega
    · rw [if_neg z] at h
      cases h
/-- fillM by its cases -/
theorem fill_cases {F : Fm} {R R' : Rm} {ws : List Str} (h : fillM F R ws = .ok R') :
    (∃ as ss, ws = ("word" : Str) :: as ∧ 1 ≤ as.length ∧ as.length ≤ 8 ∧ mapE (sumM F) as = .ok ss ∧ R' = { R with op := "word", sums := ss }) ∨
    (∃ a z n L, ws = [("is" : Str), a, z] ∧ nameM F a = .ok n ∧ sumM F z = .ok L ∧ R' = { R with op := "is", gives := n, sums := [L] }) ∨
    (∃ o as nb nn bs ss, ws = o :: as ∧ o ≠ ("word" : Str) ∧ o ≠ ("is" : Str) ∧ shapeM o = some (nb, nn) ∧ as.length = nb + nn ∧ mapE (boxM F) (as.take nb) = .ok bs ∧ mapE (sumM F) (as.drop nb) = .ok ss ∧ R' = { R with op := o, boxes := bs, sums := ss }) := by
  cases ws with
  | nil => cases h
  | cons o as =>
    unfold fillM at h
    simp only at h
    by_cases q1 : o = ("word" : Str)
    · rw [if_pos q1] at h
      by_cases q : 1 ≤ as.length ∧ as.length ≤ 8
      · rw [if_pos q] at h
        cases e : mapE (sumM F) as with
        | error z =>
          rw [e] at h
          cases h
        | ok ss =>
          rw [e] at h
          rw [q1] at h ⊢
          exact .inl ⟨as, ss, rfl, q.1, q.2, e, (Except.ok.inj h).symm⟩
      · rw [if_neg q] at h
        cases h
    rw [if_neg q1] at h
    by_cases q2 : o = ("is" : Str)
    · rw [if_pos q2] at h
      match as, h with
      | [], h => cases h
      | [_], h => cases h
      | [a, z], h =>
        simp only at h
        cases e : nameM F a with
        | error y =>
          rw [e] at h
          cases h
        | ok n =>
          rw [e] at h
          simp only at h
          cases e2 : sumM F z with
          | error y =>
            rw [e2] at h
            cases h
          | ok L =>
            rw [e2] at h
            rw [q2] at h ⊢
            exact .inr (.inl ⟨a, z, n, L, rfl, e, e2, (Except.ok.inj h).symm⟩)
      | _ :: _ :: _ :: _, h => cases h
    rw [if_neg q2] at h
    unfold shapedM at h
    cases e : shapeM o with
    | none =>
      simp only [e] at h
      cases h
    | some p =>
      obtain ⟨nb, nn⟩ := p
      simp only [e] at h
      by_cases q3 : as.length ≠ nb + nn
      · rw [if_pos q3] at h
        cases h
      rw [if_neg q3] at h
      cases e1 : mapE (boxM F) (as.take nb) with
      | error z =>
        rw [e1] at h
        cases h
      | ok bs =>
        rw [e1] at h
        simp only at h
        cases e2 : mapE (sumM F) (as.drop nb) with
        | error z =>
          rw [e2] at h
          cases h
        | ok ss =>
          rw [e2] at h
          exact .inr (.inr ⟨o, as, nb, nn, bs, ss, rfl, q1, q2, e, by omega, e1, e2, (Except.ok.inj h).symm⟩)
section
variable {P : Program} {w : World} {K : PySem.W.Frag} {mg : Str → Option Value} {base : Heap} {C CF : Addr}
def spFillM (K : PySem.W.Frag) (C CF : Addr) : Sp := fun vs H Q _ => ∃ (x dx pw b0 s0 t0 : Addr) (R R' : Rm) (A : Fd) (G : Fv) (F : Fm) (ws : List Str), vs = [.ref x, .ref A.x, .ref pw] ∧ H x = some (.ins C dx (rfm R b0 s0 t0)) ∧ FAt CF H A G ∧ FvIs H G F ∧ F.own.length ≤ 100000 ∧ Tabs K H ∧ H pw = some (.lst (ws.map V.str)) ∧ ws.length ≤ 1000 ∧ (∀ z ∈ ws, z.length ≤ 640) ∧ x ≠ A.x ∧ H b0 = some (.lst (R.boxes.map V.int)) ∧ fillM F R ws = .ok R' ∧
  ∀ (H' : Hp) (b s : Addr), H' x = some (.ins C dx (rfm R' b s t0)) → H' b = some (.lst (R'.boxes.map V.int)) → (∃ ts : List Addr, H' s = some (.lst (ts.map V.ref)) ∧ SumsAt H' ts R'.sums) → (∀ L ∈ R'.sums, SgOk L) → WfR R' → R'.sums.length ≤ 100000 → (R'.label = R.label ∧ ((R'.gives = R.gives ∧ R'.op ≠ ("is" : Str)) ∨ (R'.gives ≠ "" ∧ R'.op = ("is" : Str) ∧ R'.gives.length ≤ 200000)) ∧ R'.words = R.words) → (b = b0 ∨ H b = none) → H s = none → Pr x H H' → Q .non H'
theorem fill_m (c : Cal P w K mg base 7 "fill_row" (fun vs H Q E => spFillS K C CF vs H Q E ∨ spFillI K C CF vs H Q E ∨ spFillW K C CF vs H Q E) []) : Cal P w K mg base 7 "fill_row" (spFillM K C CF) [] := by
  refine Cal.imp c fun vs H Q E ⟨x, dx, pw, b0, s0, t0, R, R', A, G, F, ws, ev, hx, hF, hG, ho, hT, hw, hl, hz, ne, hb, hm, k⟩ => ?_
  have ho' : G.own.length ≤ 100000 := by rw [hG.own]; exact ho
  have nbx : b0 ≠ x := fun z => by
    rw [z, hx] at hb
    cases hb
  rcases fill_cases hm with ⟨as, ss, rfl, l1, l8, es, rfl⟩ | ⟨a, z, n, L, rfl, en, es, rfl⟩ | ⟨o, as, nb, nn, bs, ss, rfl, n1, n2, esh, el, eb, es, rfl⟩
  · refine .inr (.inr ⟨x, dx, pw, ⟨R.row, R.label, R.op, b0, s0, R.gives, R.amount, R.place, R.long, t0⟩, A, G, as, ?_⟩)
    obtain ⟨⟨Ps, a1, a2⟩, a3⟩ := sums_m hG (fun y hy => hz y (List.mem_cons_of_mem _ hy)) es
    refine ⟨Ps, ev, ⟨hx, hF, ho', hT, hw, by rw [List.length_cons] at hl; omega, ne⟩, l1, l8, ⟨by omega, rfl, a1.1.symm, fun i z n e => (by rw [List.take_zero] at e; cases e), fun i z L e1 e2 => ?_⟩, fun H' s ts g1 g2 g3 g4 pr => ?_⟩
    · rw [List.drop_zero] at e1
      exact a1.2 i z L e1 e2
    · rw [a2] at g3
      have e2 : ss.length = as.length := (mapE_al es).1.symm
      exact k H' b0 s g1 (pr _ _ hb nbx) ⟨ts, g2, g3⟩ a3 (.inr (.inr (.inl rfl))) (by show ss.length ≤ _; omega) ⟨rfl, .inl ⟨rfl, (by show ("word" : Str) ≠ "is"; decide)⟩, rfl⟩ (.inl rfl) g4 pr
  · refine .inr (.inl ⟨x, dx, pw, ⟨R.row, R.label, R.op, b0, s0, R.gives, R.amount, R.place, R.long, t0⟩, A, G, a, n, z, ?_⟩)
    have za : a.length ≤ 640 := hz a (List.mem_cons_of_mem _ List.mem_cons_self)
    have zz : z.length ≤ 640 := hz z (List.mem_cons_of_mem _ (List.mem_cons_of_mem _ List.mem_cons_self))
    obtain ⟨⟨Ls, s1, s2⟩, s3⟩ := sum_m hG zz es
    refine ⟨Ls, ev, ⟨hx, hF, ho', hT, hw, (by show 2 ≤ 100000; decide), ne⟩, by omega, name_m hG en, by omega, s1, fun H' s t g1 g2 g3 g4 pr => ?_⟩
    rw [s2] at g3
    refine k H' b0 s g1 (pr _ _ hb nbx) ⟨[t], g2, rfl, fun i u M e1 e2 => ?_⟩ (fun M hM => ?_) (.inr (.inl ⟨rfl, rfl⟩)) (by show 1 ≤ _; decide) ⟨rfl, .inr ⟨name_ne en, rfl, name_len za ho en⟩, rfl⟩ (.inl rfl) g4 pr
    · cases i with
      | zero =>
        cases e1
        cases e2
        exact g3
      | succ i => cases e1
    · rw [List.mem_singleton.mp hM]
      exact s3
  · refine .inl ⟨x, dx, pw, ⟨R.row, R.label, R.op, b0, s0, R.gives, R.amount, R.place, R.long, t0⟩, A, G, o, as, nb, nn, bs, ?_⟩
    obtain ⟨⟨Ps, a1, a2⟩, a3⟩ := sums_m hG (fun y hy => hz y (List.mem_cons_of_mem _ (List.mem_of_mem_drop hy))) es
    have al := mapE_al eb
    have l2 : (as.drop nb).length = nn := by
      rw [List.length_drop]
      omega
    have lb : bs.length = nb := by
      rw [← al.1, List.length_take]
      omega
    have l3 : ss.length = nn := by rw [← (mapE_al es).1, l2]
    rw [List.length_cons] at hl
    refine ⟨Ps, ev, ⟨hx, hF, ho', hT, hw, by omega, ne⟩, n1, n2, shape_m esh, ⟨el, lb, by rw [← a1.1, l2], fun i z n e1 e2 => box_m hG (al.2 i z n e1 e2), fun i z L e1 e2 => a1.2 i z L e1 e2⟩, fun H' b s ts g1 g2 g3 g4 g5 g6 pr => ?_⟩
    rw [a2] at g4
    exact k H' b s g1 g2 ⟨ts, g3, g4⟩ a3 (.inr (.inr (.inr ⟨nb, nn, esh, lb, l3⟩))) (by show ss.length ≤ _; omega) ⟨rfl, .inl ⟨rfl, n2⟩, rfl⟩ (.inr g5) g6 pr
/-- name_of by the plain function -/
def spNameM (K : PySem.W.Frag) (CF : Addr) : Sp := fun vs H Q _ => ∃ (a n : Str) (A : Fd) (G : Fv) (F : Fm), vs = [.str a, .ref A.x] ∧ a.length ≤ 640 ∧ F.own.length ≤ 100000 ∧ Tabs K H ∧ FAt CF H A G ∧ FvIs H G F ∧ nameM F a = .ok n ∧ Q (.str n) H
theorem name_c (c : Cal P w K mg base 3 "name_of" (spNameOf K CF) []) : Cal P w K mg base 3 "name_of" (spNameM K CF) [] := by
  refine Cal.imp c fun vs H Q E ⟨a, n, A, G, F, ev, hz, ho, hT, hF, hG, e, k⟩ => ?_
  exact ⟨a, n, A, G, ev, by omega, by rw [hG.own]; exact ho, hT, hF, name_m hG e, k⟩
end
end Rs
/-! reading.py: the reader as it lies; put_row -/
namespace Rs
open PySem PySem.Spec PyProof.Rows L2 C8
open Classical in
/-- all but what may change -/
noncomputable def cut (M : Addr → Prop) (H : Hp) : Hp := fun q => if M q then none else H q
theorem cut_sub (M : Addr → Prop) (H : Hp) : Same (cut M H) H := fun q o e => by
  unfold cut at e
  split at e
  · cases e
  · exact e
theorem cut_at {M : Addr → Prop} {H : Hp} {q : Addr} {o : HO} (e : H q = some o) (n : ¬ M q) : cut M H q = some o := by
  unfold cut
  rw [if_neg n]
  exact e
theorem cut_not {M : Addr → Prop} {H : Hp} {q : Addr} {o : HO} (e : cut M H q = some o) : ¬ M q := fun z => by
  unfold cut at e
  rw [if_pos z] at e
  cases e
theorem cut_kp {M : Addr → Prop} {H H' : Hp} (k : ∀ q o, H q = some o → ¬ M q → H' q = some o) : Same (cut M H) (cut M H') := fun q o e => cut_at (k q o (cut_sub M H q o e) (cut_not e)) (cut_not e)
/-- what may change is there, and is no tuple -/
def MOk (M : Addr → Prop) (H : Hp) : Prop := ∀ q, M q → ∃ o, H q = some o ∧ ∀ xs, o ≠ .tup xs
theorem MOk.new {M : Addr → Prop} {H : Hp} (m : MOk M H) {q : Addr} (e : H q = none) : ¬ M q := fun z => by
  obtain ⟨o, h, _⟩ := m q z
  rw [e] at h
  cases h
theorem MOk.tup {M : Addr → Prop} {H : Hp} (m : MOk M H) {q : Addr} {xs : List V} (e : H q = some (.tup xs)) : ¬ M q := fun z => by
  obtain ⟨o, h, n⟩ := m q z
  rw [e] at h
  exact n xs (Option.some.inj h).symm
theorem cut_sm {M : Addr → Prop} {H : Hp} (m : MOk M H) {t : Addr} {L : List Pp} (h : SmAt H t L) : SmAt (cut M H) t L := by
  obtain ⟨us, g1, g2⟩ := h
  exact ⟨us, cut_at g1 (m.tup g1), g2.mono fun q xs e => cut_at e (m.tup e)⟩
theorem cut_sums {M : Addr → Prop} {H : Hp} (m : MOk M H) {ts : List Addr} {Ls : List (List Pp)} (h : SumsAt H ts Ls) : SumsAt (cut M H) ts Ls := ⟨h.1, fun i t L a b => cut_sm m (h.2 i t L a b)⟩
/-- where a reader lies: itself, its dict of macros, its list of rows, the rows, the macros -/
structure Ra where
  x : Addr
  dx : Addr
  m : Addr
  r : Addr
  xs : List Addr
  ms : List Addr
def rdf (A : Ra) (bg : V) (rd : Rd) : List (Str × V) := [("macros", .ref A.m), ("begun", bg), ("head", .int rd.head), ("calls", .int rd.calls), ("rows", .ref A.r)]
/-- a row that stays -/
def RowIn (C : Addr) (I : Hp) (x : Addr) (R : Rm) : Prop := ∃ dx b s t, I x = some (.ins C dx (rfm R b s t)) ∧ RowIm I b s t R
theorem RowIn.same {C : Addr} {I I' : Hp} {x : Addr} {R : Rm} (h : RowIn C I x R) (k : Same I I') : RowIn C I' x R := by
  obtain ⟨dx, b, s, t, e, m⟩ := h
  exact ⟨dx, b, s, t, k _ _ e, m.same k⟩
def LinesAt (I : Hp) (qs : List Addr) (L : List (List Str)) : Prop := Al (fun q (ws : List Str) => I q = some (.lst (ws.map V.str)) ∧ ws.length ≤ 1000 ∧ (∀ z ∈ ws, z.length ≤ 640) ∧ ws ≠ []) qs L
/-- a macro, its rows' list at l -/
structure MacIm (CM : Addr) (I : Hp) (x l : Addr) (mc : Mac) : Prop where
  x : ∃ dx p : Addr, I x = some (.ins CM dx [("ahead", .int mc.ahead), ("params", .ref p), ("rows", .ref l)]) ∧ I p = some (.lst (mc.params.map V.str))
  few : mc.params.length ≤ 4
def MacAt (CM : Addr) (I : Hp) (x : Addr) (mc : Mac) : Prop := ∃ (l : Addr) (qs : List Addr), MacIm CM I x l mc ∧ I l = some (.lst (qs.map V.ref)) ∧ LinesAt I qs mc.rows ∧ mc.rows.length ≤ 1000
theorem MacAt.same {CM : Addr} {I I' : Hp} {x : Addr} {mc : Mac} (h : MacAt CM I x mc) (k : Same I I') : MacAt CM I' x mc := by
  obtain ⟨l, qs, ⟨⟨dx, p, a, b⟩, c⟩, d, e, f⟩ := h
  exact ⟨l, qs, ⟨⟨dx, p, k _ _ a, k _ _ b⟩, c⟩, k _ _ d, e.mono fun q ws z => ⟨k _ _ z.1, z.2⟩, f⟩
/-- a reader that has begun no macro -/
structure RdIn (K : PySem.W.Frag) (C CM CR : Addr) (M : Addr → Prop) (H : Hp) (A : Ra) (rd : Rd) : Prop where
  ok : MOk M H
  mx : M A.x
  mm : M A.m
  mr : M A.r
  x : H A.x = some (.ins CR A.dx (rdf A .non rd))
  m : H A.m = some (.dK (List.zipWith (fun (e : Str × Mac) a => ((Sum.inr e.1 : Key), V.ref a)) rd.macros A.ms))
  r : H A.r = some (.lst (A.xs.map V.ref))
  rows : Al (RowIn C (cut M H)) A.xs rd.rows
  nd : A.xs.Nodup
  macs : Al (MacAt CM (cut M H)) A.ms (rd.macros.map (·.2))
  tabs : Tabs K (cut M H)
  few : rd.rows.length ≤ 400
  mfew : rd.macros.length ≤ 60
  beg : rd.begun = false
/-- a frame that stays -/
def FrAt (CF : Addr) (I : Hp) (A : Fd) (F : Fm) : Prop := ∃ G : Fv, FAt CF I A G ∧ FvIs I G F ∧ F.own.length ≤ 100000
theorem FrAt.same {CF : Addr} {I I' : Hp} {A : Fd} {F : Fm} (h : FrAt CF I A F) (k : Same I I') : FrAt CF I' A F := by
  obtain ⟨G, a, b, c⟩ := h
  exact ⟨G, a.same k, b.same k, c⟩
def WordsAt (I : Hp) (w : Addr) (ws : List Str) : Prop := I w = some (.lst (ws.map V.str)) ∧ ws.length ≤ 1000 ∧ (∀ z ∈ ws, z.length ≤ 640) ∧ ws ≠ []
def MoreAt (CF : Addr) (I : Hp) (p : Addr) (more : List (Fm × List Str)) : Prop := ∃ ts : List Addr, I p = some (.lst (ts.map V.ref)) ∧ Al (fun t (e : Fm × List Str) => ∃ (B : Fd) (w : Addr), I t = some (.tup [.ref B.x, .ref w]) ∧ FrAt CF I B e.1 ∧ WordsAt I w e.2) ts more
theorem zip_getM {p : Addr → Mac → Prop} (a : Str) : ∀ (m : List (Str × Mac)) (ts : List Addr), Al p ts (m.map (·.2)) →
    (∀ mc, getL m a = some mc → ∃ t, valV (List.zipWith (fun (e : Str × Mac) t => ((Sum.inr e.1 : Key), V.ref t)) m ts) (Sum.inr a) = some (.ref t) ∧ p t mc) ∧ (getL m a = none → valV (List.zipWith (fun (e : Str × Mac) t => ((Sum.inr e.1 : Key), V.ref t)) m ts) (Sum.inr a) = none)
  | [], ts, h => ⟨fun L z => (by cases z), fun _ => (by rw [List.zipWith_nil_left] <;> rfl)⟩
  | e :: r, [], h => by
    have := h.1
    cases this
  | e :: r, t :: ts, h => by
    have h2 : Al p ts (r.map (·.2)) := ⟨Nat.succ.inj h.1, fun i x y a b => h.2 (i + 1) x y a b⟩
    obtain ⟨ih1, ih2⟩ := zip_getM a r ts h2
    rw [getL_cons, List.zipWith_cons_cons]
    by_cases q : e.1 = a
    · rw [if_pos q, valV_pos (show ((Sum.inr e.1 : Key), V.ref t).1 = Sum.inr a from congrArg Sum.inr q)]
      refine ⟨fun L z => ⟨t, rfl, ?_⟩, fun z => (by cases z)⟩
      have := h.2 0 t e.2 rfl rfl
      rw [Option.some.inj z] at this
      exact this
    · rw [if_neg q, valV_neg (show ¬ ((Sum.inr e.1 : Key), V.ref t).1 = Sum.inr a from fun z => q (Sum.inr.inj z))]
      exact ⟨ih1, ih2⟩
/-- as the reader was, but for itself and its rows -/
def KpR (A : Ra) (H H' : Hp) : Prop := ∀ q o, H q = some o → q ≠ A.x → q ≠ A.r → H' q = some o
section
variable {P : Program} {w : World} {K : PySem.W.Frag} {mg : Str → Option Value} {base : Heap} {C CF CM CR : Addr}
/-- a calling row (mac: whether macros are asked at all) -/
def spCalled (mac : Prop) (K : PySem.W.Frag) (C CF CM CR : Addr) : Sp := fun vs H Q _ => mac ∧ ∃ (M : Addr → Prop) (A : Ra) (rd rd' : Rd) (B : Fd) (F : Fm) (pw : Addr) (ws : List Str) (more : List (Fm × List Str)), vs = [.ref A.x, .ref B.x, .ref pw] ∧ RdIn K C CM CR M H A rd ∧ FrAt CF (cut M H) B F ∧ WordsAt H pw ws ∧ pw ≠ A.r ∧ calledM rd F ws = .ok (rd', more) ∧
  ∀ (H' : Hp) (p : Addr), RdIn K C CM CR M H' A rd' → (∀ q o, H q = some o → q ≠ A.x → H' q = some o) → H p = none → MoreAt CF (cut M H') p more → more.length ≤ 1000 → Q (.ref p) H'
def spPutRow (mac : Prop) (K : PySem.W.Frag) (C CF CM CR : Addr) : Sp := fun vs H Q _ => ∃ (M : Addr → Prop) (A : Ra) (rd rd' : Rd) (B : Fd) (F : Fm) (pw : Addr) (ws : List Str) (more : List (Fm × List Str)), vs = [.ref A.x, .ref B.x, .ref pw] ∧ RdIn K C CM CR M H A rd ∧ FrAt CF (cut M H) B F ∧ WordsAt (cut M H) pw ws ∧ (rd.macros ≠ [] → mac) ∧ putRowM rd F ws = .ok (rd', more) ∧
  ∀ (H' : Hp) (x p : Addr), RdIn K C CM CR M H' { A with xs := A.xs ++ [x] } rd' → KpR A H H' → H p = none → MoreAt CF (cut M H') p more → more.length ≤ 1000 → H x = none → Q (.ref p) H'
end
end Rs
/-! reading.py: put_row -/
namespace Rs
open PySem PySem.Spec PyProof.Rows L2 C8
section
variable {P : Program} {w : World} {K : PySem.W.Frag} {mg : Str → Option Value} {base : Heap} {C CF CM CR : Addr} {mac : Prop}
/-- a row more -/
theorem RdIn.grow {M : Addr → Prop} {H H' : Hp} {A : Ra} {rd : Rd} {x : Addr} {R : Rm} (h : RdIn K C CM CR M H A rd) (k : ∀ q o, H q = some o → q ≠ A.r → H' q = some o) (hr : H' A.r = some (.lst ((A.xs ++ [x]).map V.ref))) (hx : H x = none) (ok : MOk M H' → RowIn C (cut M H') x R) (n : rd.rows.length < 400) :
    RdIn K C CM CR M H' { A with xs := A.xs ++ [x] } (rd.add R) := by
  have mk : MOk M H' := fun q mq => by
    by_cases e : q = A.r
    · rw [e]
      exact ⟨_, hr, fun xs z => by cases z⟩
    · obtain ⟨o, g1, g2⟩ := h.ok q mq
      exact ⟨o, k q o g1 e, g2⟩
  have s : Same (cut M H) (cut M H') := cut_kp fun q o e nm => k q o e (fun z => nm (by rw [z]; exact h.mr))
  have nxr : A.x ≠ A.r := fun z => by
    have := h.x
    rw [z, h.r] at this
    cases this
  have nmr : A.m ≠ A.r := fun z => by
    have := h.m
    rw [z, h.r] at this
    cases this
  refine ⟨mk, h.mx, h.mm, h.mr, k _ _ h.x nxr, k _ _ h.m nmr, hr, (h.rows.mono fun y S z => z.same s).snoc (ok mk), ?_, h.macs.mono fun y S z => z.same s, h.tabs.same s, ?_, h.mfew, h.beg⟩
  · refine List.nodup_append.mpr ⟨h.nd, List.nodup_cons.mpr ⟨List.not_mem_nil, List.nodup_nil⟩, fun a ha b hb z => ?_⟩
    rw [List.mem_singleton.mp hb] at z
    rw [z] at ha
    obtain ⟨S, _, dx, b2, s2, t2, e, _⟩ := h.rows.mem ha
    rw [cut_sub M H _ _ e] at hx
    cases hx
  · show (rd.rows ++ [R]).length ≤ 400
    rw [List.length_append]
    show rd.rows.length + 1 ≤ 400
    omega
theorem putRow_cases {rd rd' : Rd} {F : Fm} {ws : List Str} {more : List (Fm × List Str)} (h : putRowM rd F ws = .ok (rd', more)) : rd.rows.length ≠ 400 ∧ ∃ a r, ws = a :: r ∧ ((Txt.endswith a ":" = true ∧ ∃ n, nameM F (Txt.slice a none (some (-1))) = .ok n ∧ restM rd F { Rm.new F.row with label := n } r = .ok (rd', more)) ∨ (Txt.endswith a ":" = false ∧ restM rd F (Rm.new F.row) (a :: r) = .ok (rd', more))) := by
  unfold putRowM at h
  by_cases q : rd.rows.length = 400
  · rw [if_pos q] at h
    cases h
  rw [if_neg q] at h
  refine ⟨q, ?_⟩
  cases ws with
  | nil => cases h
  | cons a r =>
    refine ⟨a, r, rfl, ?_⟩
    simp only at h
    by_cases q2 : Txt.endswith a ":" = true
    · rw [if_pos q2] at h
      cases e : nameM F (Txt.slice a none (some (-1))) with
      | error z =>
        rw [e] at h
        cases h
      | ok n =>
        rw [e] at h
        exact .inl ⟨q2, n, rfl, h⟩
    · rw [if_neg q2] at h
      exact .inr ⟨by simpa using q2, h⟩
theorem ok_put_row (D : DefAt K mg "put_row" sD_put_row) (T : Txt w K mg) (MR : TxtR K C) (MF : TxtF K CF) (MD : TxtRd K CR) (c_Row : Mak P w K mg base 1 "Row" C (spInitR C) []) (c_name_of : Cal P w K mg base 3 "name_of" (spNameM K CF) []) (c_called_rows : Cal P w K mg base 7 "called_rows" (spCalled mac K C CF CM CR) []) (c_fill_row : Cal P w K mg base 7 "fill_row" (spFillM K C CF) []) : Cal P w K mg base 8 "put_row" (spPutRow mac K C CF CM CR) [] := by
  refine cal_of D sc_put_row (fun _ _ _ _ _ _ us hl => match us, hl with | [_, _, _], _ => rfl) (fun vs H Q E h => ?_) (fun cdv Ar outer s H vs Q E hr h => ?_)
  · obtain ⟨M, A, rd, rd', B, F, pw, ws, more, rfl, _⟩ := h
    rfl
  · obtain ⟨M, A, rd, rd', B, F, pw, ws, more, rfl, hA, hB, hW, hmac, hm, k⟩ := h
    refine ⟨_, (pss_cons (ps_if (pt_cmpR op_eq (pe_callB call_len_seq (by rfl) T.free_len (by decide +kernel) (pa_cons (pe_fld (pv 0) rfl) pa_nil)) (pe_gI (by rfl) T.g_ROWS_MOST) (nomark _))
   (pss_one ps_never)
   pss_nil)
  (pss_cons (ps_set (i := 3) sc_put_row.nd rfl (Or.inl rfl) (pe_mk c_Row hr (by decide) (by rfl) (pa_cons (pe_fld (pv 1) rfl) pa_nil)))
  (pss_cons (ps_expr (pe_bm PySem.F.plainAttrs_list PySem.F.slot_list_append PySem.F.type_list_append mt_append (pe_fld (pv 0) rfl) (pa_cons (pv 3) pa_nil)))
  (pss_cons (ps_set (i := 4) sc_put_row.nd rfl (Or.inl rfl) (pv 2))
  (pss_cut (ps_if (pt_val (pe_bm PySem.F.plainAttrs_str PySem.F.slot_str_endswith PySem.F.type_str_endswith mt_endswith (pe_ix ix_list (pv 2) pe_int (fun _ _ => rfl)) (pa_cons pe_str pa_nil)))
   (pss_cons (ps_fld (pv 3) (pe_c c_name_of hr (by decide) (by rfl) (pa_cons (pe_slice sl_txt (pe_ix ix_list (pv 2) pe_int (fun _ _ => rfl)) po_none (po_some (pe_un un_neg pe_int))) (pa_cons (pv 1) pa_nil))) rfl)
  (pss_one (ps_set (i := 4) sc_put_row.nd rfl (Or.inl rfl) (pe_slice sl_list (pv 2) (po_some pe_int) po_none))))
   pss_nil)
  (pss_cons (ps_if (pt_not (pt_truth (pv 4) (by intro _; rfl)))
   (pss_one (ps_ret (pe_lst pa_nil)))
   pss_nil)
  (pss_cons (ps_if (pt_cmp (pc_din (hu_of hr) (pe_ix ix_list (pv 4) pe_int (fun _ _ => rfl)) (pe_fld (pv 0) rfl)))
   (pss_one (ps_ret (pe_c c_called_rows hr (by decide) (by rfl) (pa_cons (pv 0) (pa_cons (pv 1) (pa_cons (pv 4) pa_nil))))))
   pss_nil)
  (pss_cons (ps_expr (pe_c c_fill_row hr (by decide) (by rfl) (pa_cons (pv 3) (pa_cons (pv 1) (pa_cons (pv 4) pa_nil)))))
  (pss_one (ps_ret (pe_lst pa_nil))))))))))), ?_⟩
    obtain ⟨n400, a, rs, rfl, alt⟩ := putRow_cases hm
    have hlen : A.xs.length = rd.rows.length := hA.rows.1
    have few := hA.few
    obtain ⟨G, hFA, hFv, hown⟩ := hB
    have hFH := hFA.same (cut_sub M H)
    have hWH := cut_sub M H _ _ hW.1
    refine ⟨_, rfl, A.x, CR, A.dx, _, _, rfl, hA.x, MD.cl, MD.rows, rfl, A.r, _, rfl, .inl (SqL.of hA.r), rfl, _, rfl, ?_⟩
    rw [decide_eq_false (fun z => n400 (by
      have := V.int.inj z
      rw [List.length_map, hlen] at this
      omega))]
    refine iteF ⟨_, rfl, B.x, CF, B.dx, ff B G, _, rfl, hFH.x, MF.cl, MF.row, rfl, fun x dx nx ndx nex => ?_⟩
    refine ⟨x, dx, G.row, rfl, upd_same, fun H1 b sa t hx hb hs ht zb zs zt nbs pr => ⟨rfl, ?_⟩⟩
    have s01 : Same H (upd (upd H dx (.own x)) x (.ins C dx [])) := fun q o e => by
      rw [upd_ne (ne_of_none e nx), upd_ne (ne_of_none e ndx)]
      exact e
    have s1 : Same H H1 := fun q o e => pr q o (s01 q o e) (ne_of_none e nx)
    have zb0 := s01.free zb
    have zs0 := s01.free zs
    have zt0 := s01.free zt
    rw [hFv.row] at hx
    have hx : H1 x = some (.ins C dx (rfm (Rm.new F.row) b sa t)) := hx
    -- the row is put among the rows
    have x1 := s1 _ _ hA.x
    have r1 := s1 _ _ hA.r
    refine ⟨_, rfl, A.x, CR, A.dx, _, _, rfl, x1, MD.cl, MD.rows, rfl, .inl ⟨rfl, _, SqL.of r1⟩, _, rfl, A.r, _, _, rfl, rfl, r1, ?_, ?_⟩
    · rw [List.length_map, hlen]
      exact Nat.lt_of_le_of_lt few (by decide)
    have nxr : x ≠ A.r := (ne_of_none hA.r nx).symm
    have nbr : b ≠ A.r := (ne_of_none hA.r zb0).symm
    have nsr : sa ≠ A.r := (ne_of_none hA.r zs0).symm
    have ntr : t ≠ A.r := (ne_of_none hA.r zt0).symm
    have nxAx : x ≠ A.x := (ne_of_none hA.x nx).symm
    have nxB : x ≠ B.x := (ne_of_none hFH.x nx).symm
    have kk : ∀ q o, H q = some o → q ≠ A.r → upd H1 A.r (.lst (A.xs.map V.ref ++ [V.ref x])) q = some o := fun q o e n => (upd_ne n).trans (s1 q o e)
    have r2 : upd H1 A.r (.lst (A.xs.map V.ref ++ [V.ref x])) A.r = some (.lst ((A.xs ++ [x]).map V.ref)) := by
      rw [upd_same, List.map_append] <;> rfl
    have hx2 : upd H1 A.r (.lst (A.xs.map V.ref ++ [V.ref x])) x = some (.ins C dx (rfm (Rm.new F.row) b sa t)) := (upd_ne nxr).trans hx
    have hb2 : upd H1 A.r (.lst (A.xs.map V.ref ++ [V.ref x])) b = some (.lst []) := (upd_ne nbr).trans hb
    have hs2 : upd H1 A.r (.lst (A.xs.map V.ref ++ [V.ref x])) sa = some (.lst []) := (upd_ne nsr).trans hs
    have ht2 : upd H1 A.r (.lst (A.xs.map V.ref ++ [V.ref x])) t = some (.tup []) := (upd_ne ntr).trans ht
    generalize upd H1 A.r (.lst (A.xs.map V.ref ++ [V.ref x])) = H2 at kk r2 hx2 hb2 hs2 ht2 ⊢
    -- what is in the cut stays
    have ks : ∀ {H' : Hp}, (∀ q o, H q = some o → q ≠ A.r → H' q = some o) → Same (cut M H) H' := fun kq q o e => kq q o (cut_sub M H _ _ e) (fun z => cut_not e (by rw [z]; exact hA.mr))
    have hw2 := ks kk _ _ hW.1
    have npr : pw ≠ A.r := fun z => cut_not hW.1 (by rw [z]; exact hA.mr)
    have npx : pw ≠ x := ne_of_none hWH nx
    refine ⟨_, rfl, ?_⟩
    refine ⟨fun σ' H' => ∃ (R1 : Rm) (prest : Addr) (rest : List Str), σ' = [some (.ref A.x), some (.ref B.x), some (.ref pw), some (.ref x), some (.ref prest)] ∧ (∀ q o, H q = some o → q ≠ A.r → H' q = some o) ∧ H' A.r = some (.lst ((A.xs ++ [x]).map V.ref)) ∧ H' x = some (.ins C dx (rfm R1 b sa t)) ∧ H' b = some (.lst []) ∧ H' sa = some (.lst []) ∧ H' t = some (.tup []) ∧ H' prest = some (.lst (rest.map V.str)) ∧ rest.length ≤ 1000 ∧ (∀ z ∈ rest, z.length ≤ 640) ∧ prest ≠ A.r ∧ prest ≠ x ∧ R1.boxes = [] ∧ R1.sums = [] ∧ R1.op = "" ∧ R1.words = [] ∧ R1.gives = "" ∧ R1.label.length ≤ 200000 ∧ restM rd F R1 rest = .ok (rd', more), ?_, ?_⟩
    · refine ⟨_, rfl, pw, _, _, _, rfl, rfl, SqL.of hw2, atI_nat (j := 0) rfl, (rfl : ("str" : String) = "str"), a, _, rfl, rfl, _, rfl, ?_⟩
      have za : a.length ≤ 640 := hW.2.2.1 a List.mem_cons_self
      rcases alt with ⟨e1, n, e2, e3⟩ | ⟨e1, e3⟩
      · rw [e1]
        have hFH2 := hFA.same (ks kk)
        refine iteT ⟨_, rfl, pw, _, _, _, rfl, rfl, SqL.of hw2, atI_nat (j := 0) rfl, _, rfl, _, rfl, a, rfl, Nat.le_trans za (by decide), _, rfl, Txt.slice a none (some (-1)), n, B, G, F, rfl, ?_, hown, hA.tabs.same (ks kk), hFH2, hFv.same (ks kk), e2, _, rfl, x, C, dx, rfm (Rm.new F.row) b sa t, rfl, hx2, MR.cl, MR.label, (by show 10 < 1000; decide), ?_⟩
        · rw [← cutS_slice]
          exact Nat.le_trans (cutS_length _ _ _) za
        · have nxp : x ≠ pw := npx.symm
          refine ⟨_, rfl, _, rfl, pw, _, rfl, SqL.of ((upd_ne npx).trans hw2), fun p hp => ?_⟩
          rw [show cutV ((a :: rs).map V.str) (some 1) none = rs.map V.str from cutV_drop _ 1]
          have nxp2 : x ≠ p := fun z => by
            rw [← z, upd_same] at hp
            cases hp
          have np : ∀ {q : Addr} {o : HO}, H2 q = some o → q ≠ p := fun {q o} e z => by
            rw [← z] at hp
            by_cases qx : q = x
            · exact nxp2 (qx ▸ z)
            · rw [upd_ne qx, e] at hp
              cases hp
          have nbx : b ≠ x := fun z => by
            rw [z, hx2] at hb2
            cases hb2
          have nsx : sa ≠ x := fun z => by
            rw [z, hx2] at hs2
            cases hs2
          have ntx : t ≠ x := fun z => by
            rw [z, hx2] at ht2
            cases ht2
          refine ⟨{ Rm.new F.row with label := n }, p, rs, rfl, fun q o e nr => ?_, (upd_ne (np r2)).trans ((upd_ne nxr.symm).trans r2), (upd_ne nxp2).trans upd_same, (upd_ne (np hb2)).trans ((upd_ne nbx).trans hb2), (upd_ne (np hs2)).trans ((upd_ne nsx).trans hs2), (upd_ne (np ht2)).trans ((upd_ne ntx).trans ht2), upd_same, ?_, fun z hz => hW.2.2.1 z (List.mem_cons_of_mem _ hz), (np r2).symm, nxp2.symm, rfl, rfl, rfl, rfl, rfl, ?_, e3⟩
          · have e4 := kk q o e nr
            have qx : q ≠ x := ne_of_none e nx
            rw [upd_ne (np e4), upd_ne qx]
            exact e4
          · have := hW.2.1
            rw [List.length_cons] at this
            omega
          · refine name_len ?_ hown e2
            rw [← cutS_slice]
            exact Nat.le_trans (cutS_length _ _ _) za
      · rw [e1]
        exact iteF ⟨Rm.new F.row, pw, a :: rs, rfl, kk, r2, hx2, hb2, hs2, ht2, hw2, hW.2.1, hW.2.2.1, npr, npx, rfl, rfl, rfl, rfl, rfl, Nat.zero_le _, e3⟩
    rintro σ3 H3 ⟨R1, prest, rest, rfl, k3, r3, x3, b3, s3, t3, w3, l3, z3, n3, n3x, eb, es, eo, ew, eg, el, hrest⟩
    have rowIn : ∀ {H' : Hp} {R : Rm} {b' s' : Addr}, MOk M H' → H' x = some (.ins C dx (rfm R b' s' t)) → ¬ M x → H' b' = some (.lst (R.boxes.map V.int)) → ¬ M b' → (∃ ts : List Addr, H' s' = some (.lst (ts.map V.ref)) ∧ SumsAt H' ts R.sums) → ¬ M s' → H' t = some (.tup (R.words.map V.int)) → (∀ L ∈ R.sums, SgOk L) → WfR R → R.sums.length ≤ 100000 → R.label.length ≤ 200000 ∧ R.gives.length ≤ 200000 → (R.gives ≠ "" ↔ R.op = ("is" : Str)) → RowIn C (cut M H') x R := fun {H' R b' s'} mk h1 m1 h2 m2 h3 m3 h4 h5 h6 h7 h8 h9 => by
      obtain ⟨ts, g1, g2⟩ := h3
      exact ⟨dx, b', s', t, cut_at h1 m1, ⟨cut_at h2 m2, ⟨ts, cut_at g1 m3, cut_sums mk g2⟩, cut_at h4 (mk.tup h4), h5, h6, h7, h8, h9⟩⟩
    have mx : ¬ M x := hA.ok.new nx
    have mb : ¬ M b := hA.ok.new zb0
    have ms : ¬ M sa := hA.ok.new zs0
    have plain : ∀ {H' : Hp}, MOk M H' → H' x = some (.ins C dx (rfm R1 b sa t)) → H' b = some (.lst []) → H' sa = some (.lst []) → H' t = some (.tup []) → RowIn C (cut M H') x R1 := fun {H'} mk h1 h2 h3 h4 => by
      refine rowIn mk h1 mx (by rw [eb]; exact h2) mb ⟨[], h3, by rw [es]; exact ⟨rfl, fun i t L z => by cases z⟩⟩ ms (by rw [ew]; exact h4) (fun L hL => by rw [es] at hL; cases hL) (.inl ⟨eo, es⟩) (by rw [es]; exact Nat.zero_le _) ⟨el, by rw [eg]; exact Nat.zero_le _⟩ ⟨fun z => absurd eg z, fun z => by rw [eo] at z; exact absurd z (by decide)⟩
    have n4 : rd.rows.length < 400 := by omega
    refine ⟨_, rfl, !(rest.map V.str).isEmpty, .inl ⟨_, SqL.of w3, rfl⟩, ?_⟩
    cases rest with
    | nil =>
      have e1 : (Except.ok (rd.add R1, []) : Re (Rd × List (Fm × List Str))) = .ok (rd', more) := hrest
      cases e1
      refine iteT ⟨Nat.zero_le _, fun p hp => ?_⟩
      have np : ∀ {q : Addr} {o : HO}, H3 q = some o → q ≠ p := fun e => ne_of_none e hp
      have hp0 : H p = none := by
        cases e : H p with
        | none => rfl
        | some o =>
          by_cases q : p = A.r
          · rw [q, r3] at hp
            cases hp
          · rw [k3 p o e q] at hp
            cases hp
      refine k _ x p (hA.grow (fun q o e n => (upd_ne (np (k3 q o e n))).trans (k3 q o e n)) ((upd_ne (np r3)).trans r3) nx (fun mk => plain mk ((upd_ne (np x3)).trans x3) ((upd_ne (np b3)).trans b3) ((upd_ne (np s3)).trans s3) ((upd_ne (np t3)).trans t3)) n4) (fun q o e _ n => (upd_ne (np (k3 q o e n))).trans (k3 q o e n)) hp0 ⟨[], cut_at upd_same (hA.ok.new hp0), Al.nil⟩ (Nat.zero_le _) nx
    | cons m as =>
      refine iteF ?_
      have x5 := k3 _ _ hA.x (fun z => by
        have := hA.x
        rw [z, hA.r] at this
        cases this)
      have m5 := k3 _ _ hA.m (fun z => by
        have := hA.m
        rw [z, hA.r] at this
        cases this)
      refine ⟨_, rfl, prest, _, _, _, rfl, rfl, SqL.of w3, atI_nat (j := 0) rfl, _, rfl, A.x, CR, A.dx, _, _, rfl, x5, MD.cl, MD.macros, rfl, A.m, _, rfl, DGet.k (k := Sum.inr m) m5, _, rfl, ?_⟩
      obtain ⟨g1, g2⟩ := zip_getM m rd.macros A.ms hA.macs
      have hrest : (if (getL rd.macros m).isSome = true then calledM (rd.add R1) F (m :: as) else match fillM F R1 (m :: as) with | .error e => (.error e : Re (Rd × List (Fm × List Str))) | .ok R' => .ok (rd.add R', [])) = .ok (rd', more) := hrest
      cases eg2 : getL rd.macros m with
      | some mc =>
        obtain ⟨ta, h1, _⟩ := g1 mc eg2
        rw [h1]
        rw [eg2] at hrest
        rw [if_pos (show (some mc).isSome = true from rfl)] at hrest
        have hA2 : RdIn K C CM CR M H3 { A with xs := A.xs ++ [x] } (rd.add R1) := hA.grow k3 r3 nx (fun mk => plain mk x3 b3 s3 t3) n4
        refine iteT ⟨_, rfl, _, rfl, _, rfl, hmac (fun z => by rw [z] at eg2; cases eg2), M, { A with xs := A.xs ++ [x] }, rd.add R1, rd', B, F, prest, m :: as, more, rfl, hA2, ?_, ⟨w3, l3, z3, by simp⟩, n3, hrest, fun H' p a1 a2 a3 a4 a5 => ?_⟩
        · exact FrAt.same ⟨G, hFA, hFv, hown⟩ (cut_kp fun q o e nm => k3 q o e (fun z => nm (by rw [z]; exact hA.mr)))
        · have hp0 : H p = none := by
            cases e : H p with
            | none => rfl
            | some o =>
              by_cases q : p = A.r
              · rw [q, r3] at a3
                cases a3
              · rw [k3 p o e q] at a3
                cases a3
          exact k H' x p a1 (fun q o e n1 n2 => a2 q o (k3 q o e n2) n1) hp0 a4 a5 nx
      | none =>
        rw [g2 eg2]
        rw [eg2] at hrest
        rw [if_neg (fun z : (none : Option Mac).isSome = true => by cases z)] at hrest
        cases ef : fillM F R1 (m :: as) with
        | error z =>
          rw [ef] at hrest
          cases hrest
        | ok R' =>
          rw [ef] at hrest
          cases hrest
          refine iteF ⟨_, rfl, _, rfl, _, rfl, x, dx, prest, b, sa, t, R1, R', B, G, F, m :: as, rfl, x3, hFA.same (ks k3), hFv.same (ks k3), hown, hA.tabs.same (ks k3), w3, l3, z3, nxB, by rw [eb]; exact b3, ef, fun H' b' s' h1 h2 h3 h4 h5 h6 h7 f1 f2 pr2 => ⟨Nat.zero_le _, fun p hp => ?_⟩⟩
          have np : ∀ {q : Addr} {o : HO}, H' q = some o → q ≠ p := fun e => ne_of_none e hp
          have k4 : ∀ q o, H q = some o → q ≠ A.r → H' q = some o := fun q o e n => pr2 q o (k3 q o e n) (ne_of_none e nx)
          have r4 := pr2 _ _ r3 nxr.symm
          have ntx : t ≠ x := fun z => by
            rw [z, x3] at t3
            cases t3
          have t4 := pr2 _ _ t3 ntx
          have hp0 : H p = none := by
            cases e : H p with
            | none => rfl
            | some o =>
              by_cases q : p = A.r
              · rw [q, r4] at hp
                cases hp
              · rw [k4 p o e q] at hp
                cases hp
          refine k _ x p (hA.grow (fun q o e n => (upd_ne (np (k4 q o e n))).trans (k4 q o e n)) ((upd_ne (np r4)).trans r4) nx (fun mk => ?_) n4) (fun q o e _ n => (upd_ne (np (k4 q o e n))).trans (k4 q o e n)) hp0 ⟨[], cut_at upd_same (hA.ok.new hp0), Al.nil⟩ (Nat.zero_le _) nx
          have fr : ∀ {q : Addr}, H3 q = none → H q = none := fun {q} z => by
            cases e : H q with
            | none => rfl
            | some o =>
              by_cases qr : q = A.r
              · rw [qr, r3] at z
                cases z
              · rw [k3 q o e qr] at z
                cases z
          obtain ⟨e1, e2, e3⟩ := h7
          obtain ⟨ts, g3, g4⟩ := h3
          have s4 : Same H' (upd H' p (.lst [])) := Same.new hp
          refine rowIn mk (s4 _ _ h1) mx (s4 _ _ h2) (f1.elim (fun z => by rw [z]; exact mb) fun z => hA.ok.new (fr z)) ⟨ts, s4 _ _ g3, g4.same s4⟩ (hA.ok.new (fr f2)) (by rw [e3, ew]; exact s4 _ _ t4) h4 h5 h6 ⟨by rw [e1]; exact el, ?_⟩ ?_
          · rcases e2 with z | z
            · rw [z.1, eg]
              exact Nat.zero_le _
            · exact z.2.2
          · rcases e2 with z | z
            · exact ⟨fun y => absurd (z.1.trans eg) y, fun y => absurd y z.2⟩
            · exact ⟨fun _ => z.2.1, fun _ => z.1⟩
end
end Rs
/-! reading.py: put_in -/
namespace Rs
open PySem PySem.Spec PyProof.Rows L2 C8
theorem cut_more {M M' : Addr → Prop} {H : Hp} (h : ∀ q, M q → M' q) : Same (cut M' H) (cut M H) := fun q o e => cut_at (cut_sub M' H _ _ e) (fun z => cut_not e (h q z))
section
variable {P : Program} {w : World} {K : PySem.W.Frag} {mg : Str → Option Value} {base : Heap} {C CF CM CR : Addr} {mac : Prop}
/-- one thing more may change, a new one -/
theorem RdIn.more {M : Addr → Prop} {H H1 : Hp} {A : Ra} {rd : Rd} {l : Addr} {o : HO} (h : RdIn K C CM CR M H A rd) (s : Same H H1) (hl : H l = none) (hl1 : H1 l = some o) (no : ∀ xs, o ≠ .tup xs) : RdIn K C CM CR (fun q => M q ∨ q = l) H1 A rd := by
  have c : Same (cut M H) (cut (fun q => M q ∨ q = l) H1) := fun q u e => cut_at (s _ _ (cut_sub M H _ _ e)) (fun z => z.elim (cut_not e) fun y => by
    have := cut_sub M H _ _ e
    rw [y, hl] at this
    cases this)
  refine ⟨fun q z => ?_, .inl h.mx, .inl h.mm, .inl h.mr, s _ _ h.x, s _ _ h.m, s _ _ h.r, h.rows.mono fun y R z => z.same c, h.nd, h.macs.mono fun y R z => z.same c, h.tabs.same c, h.few, h.mfew, h.beg⟩
  rcases z with z | z
  · obtain ⟨u, g1, g2⟩ := h.ok q z
    exact ⟨u, s _ _ g1, g2⟩
  · rw [z]
    exact ⟨o, hl1, no⟩
/-- .. and no more -/
theorem RdIn.less {M M' : Addr → Prop} {H : Hp} {A : Ra} {rd : Rd} (h : RdIn K C CM CR M' H A rd) (s : ∀ q, M q → M' q) (hx : M A.x) (hm : M A.m) (hr : M A.r) : RdIn K C CM CR M H A rd := by
  have c := cut_more (H := H) s
  exact ⟨fun q z => h.ok q (s q z), hx, hm, hr, h.x, h.m, h.r, h.rows.mono fun y R z => z.same c, h.nd, h.macs.mono fun y R z => z.same c, h.tabs.same c, h.few, h.mfew, h.beg⟩
/-- a mutable list told otherwise -/
theorem RdIn.put {M : Addr → Prop} {H : Hp} {A : Ra} {rd : Rd} {l : Addr} {o : HO} (h : RdIn K C CM CR M H A rd) (ml : M l) (n1 : l ≠ A.x) (n2 : l ≠ A.m) (n3 : l ≠ A.r) (no : ∀ xs, o ≠ .tup xs) : RdIn K C CM CR M (upd H l o) A rd := by
  have c : Same (cut M H) (cut M (upd H l o)) := cut_kp fun q u e nm => (upd_ne (fun z => nm (by rw [z]; exact ml))).trans e
  refine ⟨fun q z => ?_, h.mx, h.mm, h.mr, (upd_ne n1.symm).trans h.x, (upd_ne n2.symm).trans h.m, (upd_ne n3.symm).trans h.r, h.rows.mono fun y R z => z.same c, h.nd, h.macs.mono fun y R z => z.same c, h.tabs.same c, h.few, h.mfew, h.beg⟩
  by_cases e : q = l
  · rw [e]
    exact ⟨o, upd_same, no⟩
  · obtain ⟨u, g1, g2⟩ := h.ok q z
    exact ⟨u, (upd_ne e).trans g1, g2⟩
theorem RdIn.new {M : Addr → Prop} {H H1 : Hp} {A : Ra} {rd : Rd} (h : RdIn K C CM CR M H A rd) (s : Same H H1) : RdIn K C CM CR M H1 A rd := by
  have c : Same (cut M H) (cut M H1) := cut_kp fun q u e nm => s q u e
  exact ⟨fun q z => by
    obtain ⟨u, g1, g2⟩ := h.ok q z
    exact ⟨u, s _ _ g1, g2⟩, h.mx, h.mm, h.mr, s _ _ h.x, s _ _ h.m, s _ _ h.r, h.rows.mono fun y R z => z.same c, h.nd, h.macs.mono fun y R z => z.same c, h.tabs.same c, h.few, h.mfew, h.beg⟩
def WaitAt (CF : Addr) (I : Hp) (t : Addr) (e : Fm × List Str) : Prop := ∃ (B : Fd) (w : Addr), I t = some (.tup [.ref B.x, .ref w]) ∧ FrAt CF I B e.1 ∧ WordsAt I w e.2
theorem WaitAt.same {I I' : Hp} {t : Addr} {e : Fm × List Str} (h : WaitAt CF I t e) (k : Same I I') : WaitAt CF I' t e := by
  obtain ⟨B, w, a, b, c⟩ := h
  exact ⟨B, w, k _ _ a, b.same k, k _ _ c.1, c.2⟩
def spPutIn (mac : Prop) (K : PySem.W.Frag) (C CF CM CR : Addr) : Sp := fun vs H Q _ => ∃ (M : Addr → Prop) (A : Ra) (rd rd' : Rd) (number : Int) (pw : Addr) (ws : List Str), vs = [.ref A.x, .int number, .ref pw] ∧ RdIn K C CM CR M H A rd ∧ WordsAt (cut M H) pw ws ∧ (rd.macros ≠ [] → mac) ∧ putInM rd number ws = .ok rd' ∧
  ∀ (H' : Hp) (ys : List Addr), RdIn K C CM CR M H' { A with xs := A.xs ++ ys } rd' → KpR A H H' → (∀ y ∈ ys, H y = none) → Q .non H'
theorem putRow_macros {rd rd' : Rd} {F : Fm} {ws : List Str} {more : List (Fm × List Str)} (h : putRowM rd F ws = .ok (rd', more)) : rd'.macros = rd.macros := by
  obtain ⟨_, a, r, _, alt⟩ := putRow_cases h
  have go : ∀ {R : Rm} {ws : List Str}, restM rd F R ws = .ok (rd', more) → rd'.macros = rd.macros := fun {R ws} h => by
    cases ws with
    | nil =>
      have e : (Except.ok (rd.add R, []) : Re (Rd × List (Fm × List Str))) = .ok (rd', more) := h
      cases e
      rfl
    | cons m as =>
      have h : (if (getL rd.macros m).isSome = true then calledM (rd.add R) F (m :: as) else match fillM F R (m :: as) with | .error e => (.error e : Re (Rd × List (Fm × List Str))) | .ok R' => .ok (rd.add R', [])) = .ok (rd', more) := h
      by_cases q : (getL rd.macros m).isSome = true
      · rw [if_pos q] at h
        unfold calledM at h
        simp only at h
        cases e : getL (rd.add R).macros m with
        | none =>
          rw [e] at h
          cases h
        | some mc =>
          rw [e] at h
          simp only at h
          split at h
          · cases h
          · split at h
            · cases h
            · cases h
              rfl
      · rw [if_neg q] at h
        cases e : fillM F R (m :: as) with
        | error z =>
          rw [e] at h
          cases h
        | ok R' =>
          rw [e] at h
          cases h
          rfl
  rcases alt with ⟨_, n, _, h⟩ | ⟨_, h⟩
  · exact go h
  · exact go h
theorem rev_last {α : Type} {t : α} {ts : List α} : ((t :: ts).reverse)[(t :: ts).reverse.length - 1]? = some t := by
  rw [List.reverse_cons, List.length_append]
  show (ts.reverse ++ [t])[ts.reverse.length + 1 - 1]? = some t
  rw [Nat.add_sub_cancel, List.getElem?_append_right (Nat.le_refl _), Nat.sub_self] <;> rfl
theorem ok_put_in (D : DefAt K mg "put_in" sD_put_in) (T : Txt w K mg) (MF : TxtF K CF) (MD : TxtRd K CR) (c_Frame : Mak P w K mg base 1 "Frame" CF (spInitF CF) []) (c_put_row : Cal P w K mg base 8 "put_row" (spPutRow mac K C CF CM CR) []) : Cal P w K mg base 9 "put_in" (spPutIn mac K C CF CM CR) [] := by
  refine cal_of D sc_put_in (fun _ _ _ _ _ _ us hl => match us, hl with | [_, _, _], _ => rfl) (fun vs H Q E h => ?_) (fun cdv Ar outer s H vs Q E hr h => ?_)
  · obtain ⟨M, A, rd, rd', number, pw, ws, rfl, _⟩ := h
    rfl
  · obtain ⟨M, A, rd, rd', number, pw, ws, rfl, hA, hW, hmac, hm, k⟩ := h
    refine ⟨_, (pss_cons (ps_set (i := 3) sc_put_in.nd rfl (Or.inl rfl) (pe_lst (pa_cons (pe_tup (pa_cons (pe_mk c_Frame hr (by decide) (by rfl) (pa_cons (pv 1) (pa_cons (pe_callB call_lenD (by rfl) T.free_len (by decide +kernel) (pa_cons (pe_fld (pv 0) rfl) pa_nil)) (pa_cons pe_str pa_nil)))) (pa_cons (pv 2) pa_nil))) pa_nil)))
  (pss_one (ps_while PassesOwn.never (pt_truth (pv 3) (by intro _; rfl))
   (pss_cons (ps_asg (pe_bm0 PySem.F.plainAttrs_list PySem.F.slot_list_pop PySem.F.type_list_pop mt_pop (pv 3)) (pg_tup rfl (pgs_cons (pg_name (i := 4) sc_put_in.nd rfl (Or.inl rfl)) (pgs_cons (pg_name (i := 5) sc_put_in.nd rfl (Or.inl rfl)) pgs_nil))))
  (pss_one (ps_expr (pe_bm PySem.F.plainAttrs_list PySem.F.slot_list_extend PySem.F.type_list_extend mt_extend (pv 3) (pa_cons (pe_revL (pe_c c_put_row hr (by decide) (by rfl) (pa_cons (pv 0) (pa_cons (pv 4) (pa_cons (pv 5) pa_nil))))) pa_nil)))))))), ?_⟩
    have hml : (List.zipWith (fun (e : Str × Mac) a => ((Sum.inr e.1 : Key), V.ref a)) rd.macros A.ms).length = rd.macros.length := by
      have := hA.macs.1
      rw [List.length_map] at this
      rw [List.length_zipWith, this, Nat.min_self]
    refine ⟨_, rfl, _, rfl, A.x, CR, A.dx, _, _, rfl, hA.x, MD.cl, MD.macros, rfl, A.m, _, rfl, hA.m, fun x dx nx ndx nex => ?_⟩
    rw [hml]
    refine ⟨x, dx, number, (rd.macros.length : Int), "", rfl, upd_same, fun H1 B eB hB zb zs nbs pr => ⟨rfl, ?_⟩⟩
    have s01 : Same H (upd (upd H dx (.own x)) x (.ins CF dx [])) := fun q o e => by
      rw [upd_ne (ne_of_none e nx), upd_ne (ne_of_none e ndx)]
      exact e
    have s1 : Same H H1 := fun q o e => pr q o (s01 q o e) (ne_of_none e nx)
    have zb0 := s01.free zb
    have zs0 := s01.free zs
    refine ⟨_, rfl, (by show 2 ≤ sizeLine; decide), fun t ht => ⟨(by show 1 ≤ sizeLine; decide), fun l hl => ?_⟩⟩
    have s2 : Same H1 (upd (upd H1 t (.tup [.ref x, .ref pw])) l (.lst [.ref t])) := (Same.new ht).add hl
    have t2 : upd (upd H1 t (.tup [.ref x, .ref pw])) l (.lst [.ref t]) t = some (.tup [.ref x, .ref pw]) := (upd_ne (ne_of_none upd_same hl)).trans upd_same
    have l2 : upd (upd H1 t (.tup [.ref x, .ref pw])) l (.lst [.ref t]) l = some (.lst [.ref t]) := upd_same
    have hl1 : H1 l = none := (Same.new ht).free hl
    generalize upd (upd H1 t (.tup [.ref x, .ref pw])) l (.lst [.ref t]) = H2 at s2 t2 l2 ⊢
    have s02 := s1.trans s2
    have zl : H l = none := s1.free hl1
    have hA2 : RdIn K C CM CR (fun q => M q ∨ q = l) H2 A rd := hA.more s02 zl l2 (fun xs z => by cases z)
    have nlx : l ≠ A.x := (ne_of_none hA.x zl).symm
    have nlm : l ≠ A.m := (ne_of_none hA.m zl).symm
    have nlr : l ≠ A.r := (ne_of_none hA.r zl).symm
    have new2 : ∀ {q : Addr} {o : HO}, H q = none → H2 q = some o → q ≠ l → cut (fun q => M q ∨ q = l) H2 q = some o := fun {q o} z e n => cut_at e (fun y => y.elim (hA.ok.new z) n)
    have w0 : WaitAt CF (cut (fun q => M q ∨ q = l) H2) t ((⟨number, rd.macros.length, "", [], []⟩ : Fm), ws) := by
      refine ⟨B, pw, ?_, ⟨⟨number, (rd.macros.length : Int), "", [], []⟩, ⟨?_, ?_, ?_⟩, ⟨rfl, rfl, rfl, rfl, ⟨[], Al.nil, rfl⟩, fun e he => by cases he⟩, Nat.zero_le _⟩, ?_, hW.2⟩
      · refine new2 (s1.free ht) ?_ (fun z => ?_)
        · rw [t2, eB]
        · rw [z, l2] at t2
          cases t2
      · refine new2 (by rw [eB]; exact nx) (s2 _ _ hB.x) (fun z => ?_)
        have := s2 _ _ hB.x
        rw [z, l2] at this
        cases this
      · refine new2 zb0 (s2 _ _ hB.b) (fun z => ?_)
        have := s2 _ _ hB.b
        rw [z, l2] at this
        cases this
      · refine new2 zs0 (s2 _ _ hB.s) (fun z => ?_)
        have := s2 _ _ hB.s
        rw [z, l2] at this
        cases this
      · have e := cut_sub M H _ _ hW.1
        exact cut_at (s02 _ _ e) (fun y => y.elim (cut_not hW.1) fun z => by rw [z, zl] at e; cases e)
    refine ⟨fun n σ H' => ∃ (ys ts : List Addr) (rdk : Rd) (wait : List (Fm × List Str)) (y4 y5 : Option V), σ = [some (.ref A.x), some (.int number), some (.ref pw), some (.ref l), y4, y5] ∧ RdIn K C CM CR (fun q => M q ∨ q = l) H' { A with xs := A.xs ++ ys } rdk ∧ KpR A H H' ∧ H' l = some (.lst (ts.reverse.map V.ref)) ∧ Al (WaitAt CF (cut (fun q => M q ∨ q = l) H')) ts wait ∧ (rdk.macros ≠ [] → mac) ∧ putGo n rdk wait = .ok rd' ∧ wait.length + 1000 * n ≤ 402000 ∧ (∀ y ∈ ys, H y = none), ?_, ?_⟩
    · refine ⟨401, [], [t], rd, [(⟨number, rd.macros.length, "", [], []⟩, ws)], _, _, rfl, ?_, fun q o e _ _ => s02 q o e, l2, ⟨rfl, fun i a b h1 h2 => ?_⟩, hmac, hm, (by show 1 + 1000 * 401 ≤ 402000; decide), fun y hy => by cases hy⟩
      · have : ({ A with xs := A.xs ++ [] } : Ra) = A := by rw [List.append_nil]
        rw [this]
        exact hA2
      · cases i with
        | zero =>
          cases h1
          cases h2
          exact w0
        | succ i => cases h1
    rintro n σ H3 ⟨ys, ts, rdk, wait, y4, y5, rfl, h3, k3, l3, a3, mac3, g3, z3, f3⟩
    refine ⟨_, rfl, !(ts.reverse.map V.ref).isEmpty, .inl ⟨_, SqL.of l3, rfl⟩, ?_⟩
    cases ts with
    | nil =>
      have e0 : wait = [] := List.eq_nil_of_length_eq_zero a3.1.symm
      rw [e0] at g3
      have e1 : rdk = rd' := by
        cases n <;> exact Except.ok.inj g3
      rw [e1] at h3
      exact iteF (k H3 ys (h3.less (fun q z => .inl z) hA.mx hA.mm hA.mr) k3 f3)
    | cons t ts =>
      rw [show (!((t :: ts).reverse.map V.ref).isEmpty) = true by simp]
      refine iteT ?_
      cases wait with
      | nil =>
        have := a3.1
        cases this
      | cons e wr =>
        obtain ⟨F, wsF⟩ := e
        cases n with
        | zero => cases g3
        | succ n =>
          have g3 : (match putRowM rdk F wsF with | .error e => (.error e : Re Rd) | .ok (rd', more) => putGo n rd' (more ++ wr)) = .ok rd' := g3
          cases ep : putRowM rdk F wsF with
          | error z =>
            rw [ep] at g3
            cases g3
          | ok pr =>
            obtain ⟨rd2, more⟩ := pr
            rw [ep] at g3
            have g3 : putGo n rd2 (more ++ wr) = .ok rd' := g3
            refine ⟨fun σ' H' => ∃ (ys ts : List Addr) (rdk : Rd) (wait : List (Fm × List Str)) (y4 y5 : Option V), σ' = [some (.ref A.x), some (.int number), some (.ref pw), some (.ref l), y4, y5] ∧ RdIn K C CM CR (fun q => M q ∨ q = l) H' { A with xs := A.xs ++ ys } rdk ∧ KpR A H H' ∧ H' l = some (.lst (ts.reverse.map V.ref)) ∧ Al (WaitAt CF (cut (fun q => M q ∨ q = l) H')) ts wait ∧ (rdk.macros ≠ [] → mac) ∧ putGo n rdk wait = .ok rd' ∧ wait.length + 1000 * n ≤ 402000 ∧ (∀ y ∈ ys, H y = none), fun σ' H' h => ⟨n, Nat.lt_succ_self _, h⟩, ?_⟩
            obtain ⟨B2, pw2, w1, w2, w3⟩ := a3.2 0 t (F, wsF) rfl rfl
            have l4 : ((t :: ts).reverse.map V.ref).dropLast = ts.reverse.map V.ref := by
              rw [List.reverse_cons, List.map_append, List.map_cons, List.map_nil, List.dropLast_concat]
            refine ⟨_, rfl, .inl ⟨rfl, _, SqL.of l3⟩, l, _, .ref t, rfl, rfl, l3, ?_, ?_⟩
            · rw [List.length_map, List.getElem?_map, rev_last] <;> rfl
            rw [l4]
            have h4 : RdIn K C CM CR (fun q => M q ∨ q = l) (upd H3 l (.lst (ts.reverse.map V.ref))) { A with xs := A.xs ++ ys } rdk := h3.put (.inr rfl) nlx nlm nlr (fun xs z => by cases z)
            have c4 : Same (cut (fun q => M q ∨ q = l) H3) (cut (fun q => M q ∨ q = l) (upd H3 l (.lst (ts.reverse.map V.ref)))) := cut_kp fun q u e nm => (upd_ne (fun z => nm (.inr z))).trans e
            have k4 : KpR A H (upd H3 l (.lst (ts.reverse.map V.ref))) := fun q o e n1 n2 => (upd_ne (ne_of_none e zl)).trans (k3 q o e n1 n2)
            have l5 : upd H3 l (.lst (ts.reverse.map V.ref)) l = some (.lst (ts.reverse.map V.ref)) := upd_same
            generalize upd H3 l (.lst (ts.reverse.map V.ref)) = H4 at h4 c4 k4 l5 ⊢
            refine ⟨t, _, rfl, SqT.of (cut_sub _ _ _ _ (c4 _ _ w1)), rfl, _, _, rfl, _, _, rfl, rfl, ?_⟩
            refine ⟨_, rfl, .inl ⟨rfl, _, SqL.of l5⟩, _, rfl, _, rfl, _, rfl, (fun q => M q ∨ q = l), { A with xs := A.xs ++ ys }, rdk, rd2, B2, F, pw2, wsF, more, rfl, h4, w2.same c4, ⟨c4 _ _ w3.1, w3.2⟩, mac3, ep, fun H5 x5 p5 h5 k5 f5 m5 n5 fx => ?_⟩
            obtain ⟨ms, pm, am⟩ := m5
            have pm' := cut_sub _ _ _ _ pm
            refine ⟨p5, _, rfl, SqL.of pm', fun v hv => ?_⟩
            have l6 := k5 _ _ l5 nlx nlr
            have c5 : Same (cut (fun q => M q ∨ q = l) H4) (cut (fun q => M q ∨ q = l) H5) := cut_kp fun q u e nm => k5 q u e (fun z => nm (by rw [z]; exact h4.mx)) (fun z => nm (by rw [z]; exact h4.mr))
            have nvl : l ≠ v := ne_of_none l6 hv
            refine ⟨l, v, _, _, rfl, rfl, (upd_ne nvl).trans l6, upd_same, ?_, ?_⟩
            · rw [List.length_map, List.length_reverse, List.length_reverse, List.length_map]
              have e1 := a3.1
              rw [List.length_cons, List.length_cons] at e1
              rw [List.length_cons] at z3
              have e2 := am.1
              exact Nat.le_trans (show ts.length + ms.length ≤ 500000 by omega) (by decide)
            · have h6 : RdIn K C CM CR (fun q => M q ∨ q = l) (upd H5 v (.lst (ms.map V.ref).reverse)) { A with xs := A.xs ++ ys ++ [x5] } rd2 := RdIn.new h5 (Same.new hv)
              have h7 := h6.put (l := l) (o := .lst (ts.reverse.map V.ref ++ (ms.map V.ref).reverse)) (.inr rfl) nlx nlm nlr (fun xs z => by cases z)
              have c6 : Same (cut (fun q => M q ∨ q = l) H5) (cut (fun q => M q ∨ q = l) (upd (upd H5 v (.lst (ms.map V.ref).reverse)) l (.lst (ts.reverse.map V.ref ++ (ms.map V.ref).reverse)))) := cut_kp fun q u e nm => (upd_ne (fun z => nm (.inr z))).trans ((upd_ne (ne_of_none e hv)).trans e)
              refine ⟨ys ++ [x5], ms ++ ts, rd2, more ++ wr, _, _, rfl, ?_, ?_, ?_, ?_, ?_, g3, ?_, ?_⟩
              · rw [List.append_assoc] at h7
                exact h7
              · intro q o e n1 n2
                rw [upd_ne (ne_of_none e zl)]
                have e5 := k5 q o (k4 q o e n1 n2) n1 n2
                rw [upd_ne (ne_of_none e5 hv)]
                exact e5
              · rw [upd_same, List.reverse_append, List.map_append, List.map_reverse]
                rw [List.map_reverse]
              · refine ⟨by rw [List.length_append, List.length_append, am.1, show ts.length = wr.length from Nat.succ.inj a3.1], fun i a b h1 h2 => ?_⟩
                by_cases hi : i < ms.length
                · rw [List.getElem?_append_left hi] at h1
                  rw [List.getElem?_append_left (by rw [← am.1]; exact hi)] at h2
                  exact WaitAt.same (am.2 i a b h1 h2) c6
                · rw [List.getElem?_append_right (Nat.le_of_not_lt hi)] at h1
                  rw [List.getElem?_append_right (by rw [← am.1]; exact Nat.le_of_not_lt hi), ← am.1] at h2
                  exact WaitAt.same (WaitAt.same (WaitAt.same (a3.2 (i - ms.length + 1) a b h1 h2) c4) c5) c6
              · rw [putRow_macros ep]
                exact mac3
              · rw [List.length_cons] at z3
                rw [List.length_append]
                omega
              · intro y hy
                rcases List.mem_append.mp hy with z | z
                · exact f3 y z
                · rw [List.mem_singleton.mp z]
                  cases e : H x5 with
                  | none => rfl
                  | some o =>
                    by_cases q1 : x5 = A.x
                    · rw [q1, h4.x] at fx
                      cases fx
                    · by_cases q2 : x5 = A.r
                      · rw [q2, h4.r] at fx
                        cases fx
                      · rw [k4 _ _ e q1 q2] at fx
                        cases fx
end
end Rs
/-! Texts: their rows, the words of a row; numbers and sums as they are written -/
namespace Rs
open PySem PySem.Spec PyProof.Rows L2 SX
/-! ### cut at a sign -/
theorem spl_small (T : List Nat) : ∀ (l : List Nat) (k : Nat) (acc : List Nat), (∀ p ∈ TL.spl T k acc l, p.length ≤ acc.length + l.length ∧ ∀ c ∈ p, c ∈ acc ∨ c ∈ l) ∧ (TL.spl T k acc l).length ≤ l.length + 1
  | [], k, acc => by
    rw [TL.spl_nil]
    refine ⟨fun p hp => ?_, Nat.le_refl _⟩
    rw [List.mem_singleton.mp hp]
    exact ⟨Nat.le_refl _, fun c hc => .inl hc⟩
  | c :: r, 0, acc => by
    by_cases h : TL.pre T (c :: r) = true
    · rw [TL.spl_hit h]
      obtain ⟨a, b⟩ := spl_small T r (T.length - 1) []
      refine ⟨fun p hp => ?_, by rw [List.length_cons, List.length_cons]; omega⟩
      rcases List.mem_cons.mp hp with z | z
      · rw [z]
        exact ⟨by omega, fun c hc => .inl hc⟩
      · obtain ⟨a1, a2⟩ := a p z
        refine ⟨by rw [List.length_cons]; simp at a1; omega, fun d hd => ?_⟩
        rcases a2 d hd with y | y
        · cases y
        · exact .inr (List.mem_cons_of_mem _ y)
    · have e : TL.spl T 0 acc (c :: r) = TL.spl T 0 (acc ++ [c]) r := by
        show (if TL.pre T (c :: r) = true then _ else _) = _
        rw [if_neg h]
      rw [e]
      obtain ⟨a, b⟩ := spl_small T r 0 (acc ++ [c])
      refine ⟨fun p hp => ?_, by rw [List.length_cons]; omega⟩
      obtain ⟨a1, a2⟩ := a p hp
      rw [List.length_append] at a1
      refine ⟨by rw [List.length_cons]; have : [c].length = 1 := rfl; omega, fun d hd => ?_⟩
      rcases a2 d hd with y | y
      · rcases List.mem_append.mp y with x | x
        · exact .inl x
        · rw [List.mem_singleton.mp x]
          exact .inr List.mem_cons_self
      · exact .inr (List.mem_cons_of_mem _ y)
  | c :: r, k + 1, acc => by
    have e : TL.spl T (k + 1) acc (c :: r) = TL.spl T k acc r := rfl
    rw [e]
    obtain ⟨a, b⟩ := spl_small T r k acc
    refine ⟨fun p hp => ?_, by rw [List.length_cons]; omega⟩
    obtain ⟨a1, a2⟩ := a p hp
    exact ⟨by rw [List.length_cons]; omega, fun d hd => (a2 d hd).imp id fun y => List.mem_cons_of_mem _ y⟩
theorem nl_S : ("\n" : Str) = S [10] := by decide +kernel
theorem sp_S : (" " : Str) = S [32] := by decide +kernel
theorem sc_S : (";" : Str) = S [59] := by decide +kernel
theorem split_nl (l : List Nat) : Txt.split (S l) "\n" = (TL.spl [10] 0 [] l).map S := by
  rw [nl_S]
  exact split_S (by simp) (by decide)
theorem split_sp (l : List Nat) : Txt.split (S l) " " = (TL.spl [32] 0 [] l).map S := by
  rw [sp_S]
  exact split_S (by simp) (by decide)
/-! ### the words of a row -/
def wl (l : List Nat) : List (List Nat) := (TL.spl [32] 0 [] l).filter fun p => decide (p ≠ [])
theorem full_S (p : List Nat) : full (S p) = decide (p ≠ []) := by
  unfold full
  rw [S_len]
  cases p with
  | nil => rfl
  | cons a r =>
    rw [decide_eq_true (List.cons_ne_nil a r), List.length_cons]
    simp
    omega
theorem wl_map (l : List Nat) : ((TL.spl [32] 0 [] l).map S).filter full = (wl l).map S := by
  unfold wl
  rw [List.filter_map]
  congr 1
  refine List.filter_congr fun p _ => ?_
  exact full_S p
theorem rowWords_plain {p : List Nat} (h : 59 ∉ p) : rowWords (S p) = (wl p).map S := by
  unfold rowWords
  rw [sc_S, partition_none (by simp) (TL.par_none1 h), split_sp, wl_map]
theorem rowWords_mark {p : List Nat} (q : List Nat) (h : 59 ∉ p) : rowWords (S (p ++ 59 :: q)) = (wl p).map S := by
  unfold rowWords
  have e : TL.par [59] [] (p ++ 59 :: q) = some (p, q) := by
    have := TL.par_part1 (s := 59) (S := []) (p := p) (rest := q) (acc := []) h
    simpa using this
  rw [sc_S, partition_some (by simp) e, split_sp, wl_map]
theorem wl_nil : wl [] = [] := rfl
theorem wl_blank (l : List Nat) : wl (32 :: l) = wl l := by
  unfold wl
  rw [TL.spl_hit (show TL.pre [32] (32 :: l) = true by simp [TL.pre]), List.filter_cons, if_neg (by simp)]
  rfl
theorem wl_word {w : List Nat} (l : List Nat) (h : 32 ∉ w) (hn : w ≠ []) : wl (w ++ 32 :: l) = w :: wl l := by
  unfold wl
  have e : TL.spl [32] 0 [] (w ++ 32 :: l) = w :: TL.spl [32] 0 [] l := by
    have := TL.spl_part1 (s := 32) (S := []) (p := w) (rest := l) (acc := []) h
    simpa using this
  rw [e, List.filter_cons, if_pos (decide_eq_true hn)]
theorem wl_last {w : List Nat} (h : 32 ∉ w) (hn : w ≠ []) : wl w = [w] := by
  unfold wl
  have e : TL.spl [32] 0 [] w = [w] := by
    have := TL.spl_last1 (s := 32) (S := []) (p := w) (acc := []) h
    simpa using this
  rw [e, List.filter_cons, if_pos (decide_eq_true hn)] <;> rfl
theorem wl_blanks (l : List Nat) : ∀ k : Nat, wl (List.replicate k 32 ++ l) = wl l
  | 0 => rfl
  | k + 1 => by
    rw [List.replicate_succ, List.cons_append, wl_blank, wl_blanks l k]
/-- words with blanks between, and blanks behind -/
theorem wl_join {ws : List (List Nat)} (k j : Nat) (h : ∀ w ∈ ws, 32 ∉ w ∧ w ≠ []) : wl (TL.joinL (List.replicate (k + 1) 32) ws ++ List.replicate j 32) = ws := by
  induction ws with
  | nil =>
    have := wl_blanks [] j
    rw [List.append_nil] at this
    exact this
  | cons w r ih =>
    have ih := ih fun v hv => h v (List.mem_cons_of_mem _ hv)
    obtain ⟨h1, h2⟩ := h w List.mem_cons_self
    cases r with
    | nil =>
      show wl (w ++ List.replicate j 32) = [w]
      cases j with
      | zero =>
        rw [List.replicate_zero, List.append_nil]
        exact wl_last h1 h2
      | succ j =>
        rw [List.replicate_succ, wl_word _ h1 h2]
        have := wl_blanks [] j
        rw [List.append_nil] at this
        rw [this] <;> rfl
    | cons v r =>
      show wl (w ++ (List.replicate (k + 1) 32 ++ TL.joinL (List.replicate (k + 1) 32) (v :: r)) ++ List.replicate j 32) = _
      rw [List.replicate_succ, List.append_assoc, List.cons_append, List.cons_append, wl_word _ h1 h2, List.append_assoc]
      have := wl_blanks (TL.joinL (32 :: List.replicate k 32) (v :: r) ++ List.replicate j 32) k
      rw [this]
      rw [List.replicate_succ] at ih
      rw [ih]
theorem lines_join {rows : List (List Nat)} (hne : rows ≠ []) (h : ∀ r ∈ rows, 10 ∉ r) : linesOf (S (TL.joinL [10] rows)) = rows.map fun r => rowWords (S r) := by
  unfold linesOf
  rw [split_nl, TL.spl_join hne h, List.map_map]
  rfl
/-! ### texts that are not too long -/
structure TextOk (text : Str) : Prop where
  len : text.length ≤ 100000
  rows : (Txt.split text "\n").length ≤ 1000
  row : ∀ y ∈ Txt.split text "\n", y.length ≤ 640
  words : ∀ y ∈ Txt.split text "\n", (Txt.partition y ";").1.length ≤ 640 ∧ (Txt.split (Txt.partition y ";").1 " ").length ≤ 1000 ∧ ∀ z ∈ Txt.split (Txt.partition y ";").1 " ", z.length ≤ 640 ∧ PyData.strOk z = true
def PlainL (lines : List (List Str)) : Prop := ∀ ws ∈ lines, ws.head? ≠ some ("macro" : Str) ∧ ws ≠ [("end" : Str)]
theorem part_first {l : List Nat} : ∃ p, (Txt.partition (S l) ";").1 = S p ∧ p.length ≤ l.length ∧ ∀ c ∈ p, c ∈ l := by
  rw [sc_S]
  cases e : TL.par [59] [] l with
  | none =>
    rw [partition_none (by simp) e]
    exact ⟨l, rfl, Nat.le_refl _, fun c hc => hc⟩
  | some q =>
    obtain ⟨p, q⟩ := q
    rw [partition_some (by simp) e]
    have go : ∀ (l acc p q : List Nat), TL.par [59] acc l = some (p, q) → p.length ≤ acc.length + l.length ∧ ∀ c ∈ p, c ∈ acc ∨ c ∈ l := fun l => by
      induction l with
      | nil => exact fun acc p q h => by cases h
      | cons c r ih =>
        intro acc p q h
        have h : (if TL.pre [59] (c :: r) = true then some (acc, (c :: r).drop [59].length) else TL.par [59] (acc ++ [c]) r) = some (p, q) := h
        by_cases z : TL.pre [59] (c :: r) = true
        · rw [if_pos z] at h
          cases h
          exact ⟨by omega, fun d hd => .inl hd⟩
        · rw [if_neg z] at h
          obtain ⟨a, b⟩ := ih _ _ _ h
          rw [List.length_append] at a
          refine ⟨by rw [List.length_cons]; have : [c].length = 1 := rfl; omega, fun d hd => ?_⟩
          rcases b d hd with y | y
          · rcases List.mem_append.mp y with x | x
            · exact .inl x
            · rw [List.mem_singleton.mp x]
              exact .inr List.mem_cons_self
          · exact .inr (List.mem_cons_of_mem _ y)
    obtain ⟨a, b⟩ := go l [] p q e
    refine ⟨p, rfl, by simpa using a, fun c hc => (b c hc).resolve_left (fun z => by cases z)⟩
theorem strOk_S {p : List Nat} (h : ∀ c ∈ p, c < 0x110000) : PyData.strOk (S p) = true := by
  unfold PyData.strOk
  rw [← Array.all_toList]
  exact List.all_eq_true.mpr fun c hc => decide_eq_true (h c hc)
theorem textOk_join {rows : List (List Nat)} (hne : rows ≠ []) (h : ∀ r ∈ rows, 10 ∉ r) (hl : ∀ r ∈ rows, r.length ≤ 100) (hc : ∀ r ∈ rows, ∀ c ∈ r, c < 0x110000) (hn : rows.length ≤ 900) : TextOk (S (TL.joinL [10] rows)) := by
  have es : Txt.split (S (TL.joinL [10] rows)) "\n" = rows.map S := by
    rw [split_nl, TL.spl_join hne h]
  have jl : ∀ (rows : List (List Nat)), (∀ r ∈ rows, r.length ≤ 100) → (TL.joinL [10] rows).length ≤ 101 * rows.length := fun rows => by
    induction rows with
    | nil => exact fun _ => Nat.le_refl _
    | cons r q ih =>
      intro hl
      have ih := ih fun x hx => hl x (List.mem_cons_of_mem _ hx)
      have hr := hl r List.mem_cons_self
      cases q with
      | nil =>
        show r.length ≤ 101 * 1
        omega
      | cons v q =>
        show (r ++ ([10] ++ TL.joinL [10] (v :: q))).length ≤ _
        rw [List.length_append, List.length_append]
        have e1 : [10].length = 1 := rfl
        have e2 : (r :: v :: q).length = (v :: q).length + 1 := rfl
        omega
  have jl := jl rows hl
  refine ⟨by rw [S_len]; omega, by rw [es, List.length_map]; omega, fun y hy => ?_, fun y hy => ?_⟩
  · rw [es] at hy
    obtain ⟨r, hr, rfl⟩ := List.mem_map.mp hy
    rw [S_len]
    have := hl r hr
    omega
  · rw [es] at hy
    obtain ⟨r, hr, rfl⟩ := List.mem_map.mp hy
    have hlr := hl r hr
    obtain ⟨p, e, pl, pc⟩ := part_first (l := r)
    rw [e, split_sp, S_len, List.length_map]
    obtain ⟨a, b⟩ := spl_small [32] p 0 []
    refine ⟨by omega, by omega, fun z hz => ?_⟩
    obtain ⟨q, hq, rfl⟩ := List.mem_map.mp hz
    obtain ⟨a1, a2⟩ := a q hq
    rw [S_len]
    refine ⟨by simp at a1; omega, strOk_S fun c hc' => ?_⟩
    rcases a2 c hc' with y | y
    · cases y
    · exact hc r hr c (pc c y)
end Rs
/-! reading.py: read_row, read, of texts without macros -/
namespace Rs
open PySem PySem.Spec PyProof.Rows L2 C8
def dS (l : List Str) : List PyData := l.map PyData.str
theorem dp_strs {K : PySem.W.Frag} {H : Hp} : ∀ l : List Str, DpAll K H (l.map V.str) (dS l)
  | [] => .nil
  | a :: r => .cons (.str a) (dp_strs r)
theorem lay_strs : ∀ l : List Str, (∀ z ∈ l, PyData.strOk z = true) → PyData.canLayAll0 (dS l) = true
  | [], _ => rfl
  | a :: r, h => by
    show (PyData.strOk a && PyData.canLayAll0 (dS r)) = true
    rw [lay_strs r (fun z hz => h z (List.mem_cons_of_mem _ hz)), h a List.mem_cons_self] <;> rfl
theorem depth_strs : ∀ l : List Str, PyData.depthAll (dS l) = 0
  | [] => rfl
  | a :: r => by
    show max (PyData.depth (.str a)) (PyData.depthAll (dS r)) = 0
    rw [depth_strs r] <;> rfl
theorem shaped_strs (l : List Str) (h : ∀ z ∈ l, PyData.strOk z = true) : SeqAt.shaped (.list (dS l)) = true := by
  have h1 : PyData.canLay0 (.list (dS l)) = true := lay_strs l h
  have h2 : PyData.depth (.list (dS l)) = 1 := by
    show PyData.depthAll (dS l) + 1 = 1
    rw [depth_strs]
  unfold SeqAt.shaped
  rw [h1, h2] <;> rfl
theorem eqv_strs : ∀ l m : List Str, PyData.eqvAll (dS l) (dS m) = decide (l = m)
  | [], [] => rfl
  | [], _ :: _ => rfl
  | _ :: _, [] => rfl
  | a :: r, b :: s => by
    show ((a == b) && PyData.eqvAll (dS r) (dS s)) = _
    rw [eqv_strs r s, Bool.eq_iff_iff]
    simp
section
variable {P : Program} {w : World} {K : PySem.W.Frag} {mg : Str → Option Value} {base : Heap} {C CF CM CR : Addr} {mac : Prop}
theorem cal_none {x : Str} {st : Stmt} {N ps : List Str} {k : Nat} (D : DefAt K mg x st) (S : FnScope N ps (defScope st))
    (hb : ∀ (kV doc pm : Value) (an : Option Addr) (cdv ct : Value) (us : List Value), us.length = ps.length → bindArgs (PySem.W.fnOf x x (defArgs st) (defBody st) (defScope st) .none kV doc pm an cdv ct) ⟨us, []⟩ = pure (ps.zip us)) : Cal P w K mg base (k + 1) x (fun _ _ _ _ => False) [] :=
  cal_of D S hb (fun _ _ _ _ h => h.elim) (fun _ _ _ _ _ _ _ _ _ h => h.elim)
/-- a row of a text without macros -/
def spReadRow (K : PySem.W.Frag) (C CF CM CR : Addr) : Sp := fun vs H Q _ => ∃ (M : Addr → Prop) (A : Ra) (rd rd' : Rd) (number : Int) (pw : Addr) (ws : List Str), vs = [.ref A.x, .int number, .ref pw] ∧ RdIn K C CM CR M H A rd ∧ WordsAt (cut M H) pw ws ∧ (∀ z ∈ ws, PyData.strOk z = true) ∧ ws.head? ≠ some ("macro" : Str) ∧ ws ≠ [("end" : Str)] ∧ rd.macros = [] ∧ putInM rd number ws = .ok rd' ∧
  ∀ (H' : Hp) (ys : List Addr), RdIn K C CM CR M H' { A with xs := A.xs ++ ys } rd' → KpR A H H' → (∀ y ∈ ys, H y = none) → Q .non H'
theorem ok_read_row (D : DefAt K mg "read_row" sD_read_row) (T : Txt w K mg) (MD : TxtRd K CR) (c_begin_macro : Cal P w K mg base 3 "begin_macro" (fun _ _ _ _ => False) []) (c_end_macro : Cal P w K mg base 1 "end_macro" (fun _ _ _ _ => False) []) (c_put_in : Cal P w K mg base 9 "put_in" (spPutIn False K C CF CM CR) []) : Cal P w K mg base 10 "read_row" (spReadRow K C CF CM CR) [] := by
  refine cal_of D sc_read_row (fun _ _ _ _ _ _ us hl => match us, hl with | [_, _, _], _ => rfl) (fun vs H Q E h => ?_) (fun cdv Ar outer s H vs Q E hr h => ?_)
  · obtain ⟨M, A, rd, rd', number, pw, ws, rfl, _⟩ := h
    rfl
  · obtain ⟨M, A, rd, rd', number, pw, ws, rfl, hA, hW, hok, n1, n2, em, hm, k⟩ := h
    refine ⟨_, (pss_one (ps_if (pt_cmpR op_eq (pe_ix ix_list (pv 2) pe_int (fun _ _ => rfl)) pe_str (nomark _))
   (pss_one (ps_expr (pe_c c_begin_macro hr (by decide) (by rfl) (pa_cons (pv 0) (pa_cons (pv 1) (pa_cons (pe_slice sl_list (pv 2) (po_some pe_int) po_none) pa_nil))))))
   (pss_one (ps_if (pt_cmpR (op_eqD hr.units) (pv 2) (pe_lst (pa_cons pe_str pa_nil)) (nomark _))
   (pss_one (ps_expr (pe_c c_end_macro hr (by decide) (by rfl) (pa_cons (pv 0) (pa_cons (pv 1) pa_nil)))))
   (pss_one (ps_if (pt_cmpR op_notN (pe_fld (pv 0) rfl) pe_non (nomark _))
   (pss_one (ps_expr (pe_bm PySem.F.plainAttrs_list PySem.F.slot_list_append PySem.F.type_list_append mt_append (pe_fld (pe_fld (pv 0) rfl) rfl) (pa_cons (pv 2) pa_nil))))
   (pss_one (ps_expr (pe_c c_put_in hr (by decide) (by rfl) (pa_cons (pv 0) (pa_cons (pv 1) (pa_cons (pv 2) pa_nil)))))))))))), ?_⟩
    have hw := cut_sub M H _ _ hW.1
    cases ws with
    | nil => exact absurd rfl hW.2.2.2
    | cons a rs =>
      refine ⟨_, rfl, pw, _, _, _, rfl, rfl, SqL.of hw, atI_nat (j := 0) rfl, rfl, _, rfl, ?_⟩
      rw [decide_eq_false (fun z => n1 (by rw [List.head?_cons]; exact congrArg some (V.str.inj z)))]
      refine iteF ⟨_, rfl, (by show 1 ≤ sizeLine; decide), fun p hp => ⟨.list (dS (a :: rs)), .list (dS [("end" : Str)]), .lst (SqL.of ((upd_ne (ne_of_none hw hp)).trans hw)) (dp_strs _), .lst (SqL.of upd_same) (dp_strs [("end" : Str)]), shaped_strs _ hok, shaped_strs _ (fun z hz => by rw [List.mem_singleton.mp hz]; decide +kernel), _, rfl, ?_⟩⟩
      rw [show PyData.eqv (.list (dS (a :: rs))) (.list (dS [("end" : Str)])) = false from (eqv_strs _ _).trans (decide_eq_false n2)]
      have s1 : Same H (upd H p (.lst [V.str "end"])) := Same.new hp
      have hA1 := hA.new s1
      refine iteF ⟨_, rfl, A.x, CR, A.dx, _, _, rfl, hA1.x, MD.cl, MD.begun, rfl, rfl, _, rfl, ?_⟩
      refine iteF ⟨_, rfl, _, rfl, _, rfl, M, A, rd, rd', number, pw, a :: rs, rfl, hA1, ⟨cut_kp (fun q o e _ => s1 q o e) _ _ hW.1, hW.2⟩, fun z => absurd em z, hm, fun H' ys h1 h2 h3 => ?_⟩
      exact k H' ys h1 (fun q o e a b => h2 q o (s1 q o e) a b) (fun y hy => s1.free (h3 y hy))
/-- a text without macros that is not too long -/
theorem readRow_plain {rd rd' : Rd} {number : Int} {ws : List Str} (n1 : ws.head? ≠ some ("macro" : Str)) (n2 : ws ≠ [("end" : Str)]) (hb : rd.begun = false) (h : readRowM rd number ws = .ok rd') : putInM rd number ws = .ok rd' := by
  unfold readRowM at h
  rw [if_neg n1, if_neg n2, if_neg (by rw [hb]; decide)] at h
  exact h
theorem putGo_plain : ∀ (n : Nat) {rd rd' : Rd} {wait : List (Fm × List Str)}, putGo n rd wait = .ok rd' → rd'.macros = rd.macros
  | n, rd, rd', [], h => by
    have e : rd = rd' := by
      cases n <;> exact Except.ok.inj h
    rw [e]
  | 0, rd, rd', _ :: _, h => by cases h
  | n + 1, rd, rd', (F, ws) :: wr, h => by
    have h : (match putRowM rd F ws with | .error e => (.error e : Re Rd) | .ok (rd', more) => putGo n rd' (more ++ wr)) = .ok rd' := h
    cases ep : putRowM rd F ws with
    | error z =>
      rw [ep] at h
      cases h
    | ok pr =>
      obtain ⟨rd2, more⟩ := pr
      rw [ep] at h
      exact (putGo_plain n h).trans (putRow_macros ep)
theorem readGo_cons {ws : List Str} {r : List (List Str)} {n : Int} {rd rd' : Rd} (h : readGo (ws :: r) n rd = .ok rd') : (ws = [] ∧ readGo r (n + 1) rd = .ok rd') ∨ (ws ≠ [] ∧ ∃ rd2, readRowM rd n ws = .ok rd2 ∧ readGo r (n + 1) rd2 = .ok rd') := by
  have h : (if ws = [] then readGo r (n + 1) rd else match readRowM rd n ws with | .error e => (.error e : Re Rd) | .ok rd' => readGo r (n + 1) rd') = .ok rd' := h
  by_cases q : ws = []
  · rw [if_pos q] at h
    exact .inl ⟨q, h⟩
  · rw [if_neg q] at h
    cases e : readRowM rd n ws with
    | error z =>
      rw [e] at h
      cases h
    | ok rd2 =>
      rw [e] at h
      exact .inr ⟨q, rd2, rfl, h⟩
/-- all rows of a text without macros -/
def spRead (K : PySem.W.Frag) (C : Addr) : Sp := fun vs H Q _ => ∃ (text : Str) (rows : List Rm), vs = [.str text] ∧ TextOk text ∧ PlainL (linesOf text) ∧ Tabs K H ∧ readM (linesOf text) = .ok rows ∧
  ∀ (H' I : Hp) (r : Addr) (xs : List Addr), Same H H' → H r = none → H' r = some (.lst (xs.map V.ref)) → RowsAt C I H' xs rows → rows.length ≤ 400 → (∀ x ∈ xs, H x = none) → Q (.ref r) H'
theorem rows_at {M : Addr → Prop} {H : Hp} {xs : List Addr} {Rs : List Rm} (nd : xs.Nodup) (h : Al (RowIn C (cut M H)) xs Rs) : RowsAt C (cut (fun q => q ∈ xs) H) H xs Rs := by
  have ok : MOk (fun q => q ∈ xs) H := fun q hq => by
    obtain ⟨R, _, dx, b, s, t, e, _⟩ := h.mem hq
    exact ⟨_, cut_sub _ _ _ _ e, fun ys z => by cases z⟩
  have nl : ∀ {q : Addr} {l : List V}, H q = some (.lst l) → q ∉ xs := fun {q l} e hq => by
    obtain ⟨R, _, dx, b, s, t, e2, _⟩ := h.mem hq
    rw [cut_sub _ _ _ _ e2] at e
    cases e
  refine ⟨cut_sub _ _, nd, h.1, fun i x R e1 e2 => ?_⟩
  obtain ⟨dx, b, s, t, g1, g2⟩ := h.2 i x R e1 e2
  obtain ⟨ts, g3, g4⟩ := g2.s
  have sb := cut_sub M H
  refine ⟨dx, b, s, t, sb _ _ g1, ?_, ⟨cut_at (sb _ _ g2.b) (nl (sb _ _ g2.b)), ⟨ts, cut_at (sb _ _ g3) (nl (sb _ _ g3)), cut_sums ok (g4.same sb)⟩, cut_at (sb _ _ g2.t) (ok.tup (sb _ _ g2.t)), g2.sg, g2.wf, g2.few, g2.lab, g2.gv⟩⟩
  unfold cut
  rw [if_pos (List.mem_of_getElem? e1)]
theorem ok_read (D : DefAt K mg "read" sD_read) (T : Txt w K mg) (MD : TxtRd K CR) (c_Reader : Mak P w K mg base 1 "Reader" CR (spInitRd CR) []) (c_split_row : Cal P w K mg base 1 "split_row" spSplitRow []) (c_read_row : Cal P w K mg base 10 "read_row" (spReadRow K C CF CM CR) []) : Cal P w K mg base 11 "read" (spRead K C) [] := by
  refine cal_of D sc_read (fun _ _ _ _ _ _ us hl => match us, hl with | [_], _ => rfl) (fun vs H Q E h => ?_) (fun cdv Ar outer s H vs Q E hr h => ?_)
  · obtain ⟨text, rows, rfl, _⟩ := h
    rfl
  · obtain ⟨text, rows, rfl, hK, hP, hT, hm, k⟩ := h
    refine ⟨_, (pss_cons (ps_set (i := 1) sc_read.nd rfl (Or.inl rfl) (pe_mk0 c_Reader hr (by decide) (by rfl)))
  (pss_cons (ps_for PassesOwn.never rfl (pi_enum (by rfl) T.free_enumerate (pa_cons (pe_bm PySem.F.plainAttrs_str PySem.F.slot_str_split PySem.F.type_str_split mt_split (pv 0) (pa_cons pe_str pa_nil)) pa_nil)) (pg_tup rfl (pgs_cons (pg_name (i := 2) sc_read.nd rfl (Or.inl rfl)) (pgs_cons (pg_name (i := 3) sc_read.nd rfl (Or.inl rfl)) pgs_nil)))
   (pss_cons (ps_set (i := 4) sc_read.nd rfl (Or.inl rfl) (pe_c c_split_row hr (by decide) (by rfl) (pa_cons (pv 3) pa_nil)))
  (pss_one (ps_if (pt_truth (pv 4) (by intro _; rfl))
   (pss_one (ps_expr (pe_c c_read_row hr (by decide) (by rfl) (pa_cons (pv 1) (pa_cons (pv 2) (pa_cons (pv 4) pa_nil))))))
   pss_nil))))
  (pss_cons (ps_if (pt_cmpR op_notN (pe_fld (pv 1) rfl) pe_non (nomark _))
   (pss_one ps_never)
   pss_nil)
  (pss_one (ps_ret (pe_fld (pv 1) rfl)))))), ?_⟩
    refine fun x dx nx ndx nex => ⟨x, dx, rfl, upd_same, fun H1 m r hx hm1 hr1 zm zr pr => ⟨rfl, ?_⟩⟩
    have s01 : Same H (upd (upd H dx (.own x)) x (.ins CR dx [])) := fun q o e => by
      rw [upd_ne (ne_of_none e nx), upd_ne (ne_of_none e ndx)]
      exact e
    have s1 : Same H H1 := fun q o e => pr q o (s01 q o e) (ne_of_none e nx)
    have zm0 := s01.free zm
    have zr0 := s01.free zr
    obtain ⟨M, eM⟩ : ∃ M : Addr → Prop, M = fun q => q = x ∨ q = m ∨ q = r := ⟨_, rfl⟩
    have mH : ∀ q, M q → H q = none := fun q z => by
      rw [eM] at z
      rcases z with z | z | z <;> rw [z]
      · exact nx
      · exact zm0
      · exact zr0
    have hA : RdIn K C CM CR M H1 ⟨x, dx, m, r, [], []⟩ Rd.new := by
      refine ⟨fun q z => ?_, by rw [eM]; exact .inl rfl, by rw [eM]; exact .inr (.inl rfl), by rw [eM]; exact .inr (.inr rfl), hx, hm1, hr1, Al.nil, List.nodup_nil, Al.nil, fun y hy => cut_at (s1 _ _ (hT y hy)) (fun z => ?_), Nat.zero_le _, Nat.zero_le _, rfl⟩
      · rw [eM] at z
        rcases z with z | z | z <;> rw [z]
        · exact ⟨_, hx, fun xs z => by cases z⟩
        · exact ⟨_, hm1, fun xs z => by cases z⟩
        · exact ⟨_, hr1, fun xs z => by cases z⟩
      · have := hT y hy
        rw [mH _ z] at this
        cases this
    unfold readM at hm
    cases eg : readGo (linesOf text) 0 Rd.new with
    | error z =>
      rw [eg] at hm
      cases hm
    | ok rdF =>
      rw [eg] at hm
      have hm : (if rdF.begun = true then (.error (rdF.head, "macro") : Re (List Rm)) else .ok rdF.rows) = .ok rows := hm
      refine ⟨_, rfl, (rfl : ("str" : String) = "str"), text, _, rfl, rfl, rfl, Nat.le_trans (Nat.add_le_add_right hK.len 2) (by decide), fun ls hls => ?_⟩
      have eL : linesOf text = (Txt.split text "\n").map rowWords := rfl
      have hwo := hK.words
      have hro := hK.row
      rw [eL] at eg hP
      generalize Txt.split text "\n" = ys at hwo hro eg hP hls ⊢
      have s2 : Same H1 (upd H1 ls (.lst (ys.map V.str))) := Same.new hls
      have l2 : upd H1 ls (.lst (ys.map V.str)) ls = some (.lst (ys.map V.str)) := upd_same
      generalize upd H1 ls (.lst (ys.map V.str)) = H2 at s2 l2 ⊢
      have hA2 := hA.new s2
      have zl : ¬ M ls := hA.ok.new hls
      refine ⟨ls, _, rfl, SqL.of l2, for_it (walk_enum (K := K) (a := ls) (xs := ys.map V.str)) (fun i σ H' => ∃ (xs : List Addr) (rdk : Rd) (y2 y3 y4 : Option V), σ = [some (.str text), some (.ref x), y2, y3, y4] ∧ RdIn K C CM CR M H' ⟨x, dx, m, r, xs, []⟩ rdk ∧ (∀ q o, H2 q = some o → ¬ M q → H' q = some o) ∧ rdk.macros = [] ∧ readGo ((ys.map rowWords).drop i) i rdk = .ok rdF ∧ ∀ y ∈ xs, H y = none) ⟨[], Rd.new, _, _, _, rfl, hA2, fun q o e _ => e, rfl, eg, fun y hy => by cases hy⟩ (fun i σ H' _ ⟨_, _, _, _, _, _, _, z, _⟩ => SqL.of (z _ _ l2 zl)) ?_ ?_⟩
      · rintro i v σ H3 H4 hi ⟨xs, rdk, y2, y3, y4, rfl, h3, k3, em, g3, f3⟩ ⟨t, v1, v2, rfl, ht, hH4, e1, e2⟩
        obtain ⟨a, ea, rfl⟩ := map_at e2
        cases e1
        subst hH4
        have hma := List.mem_of_getElem? ea
        have emw : (ys.map rowWords)[i]? = some (rowWords a) := by rw [List.getElem?_map, ea] <;> rfl
        rw [drop_cons emw] at g3
        obtain ⟨hp1, hp2⟩ := hP (rowWords a) (List.mem_map.mpr ⟨a, hma, rfl⟩)
        obtain ⟨w1, w2, w3⟩ := hwo a hma
        have h4 := h3.new (Same.new (o := .tup [.int (i : Nat), .str a]) ht)
        have k4 : ∀ q o, H2 q = some o → ¬ M q → upd H3 t (.tup [.int (i : Nat), .str a]) q = some o := fun q o e n => (upd_ne (ne_of_none (k3 q o e n) ht)).trans (k3 q o e n)
        have t4 : upd H3 t (.tup [.int (i : Nat), .str a]) t = some (.tup [.int (i : Nat), .str a]) := upd_same
        generalize upd H3 t (.tup [.int (i : Nat), .str a]) = H5 at h4 k4 t4 ⊢
        refine ⟨t, _, rfl, SqT.of t4, rfl, _, _, rfl, _, _, rfl, rfl, ?_⟩
        refine ⟨_, rfl, a, rfl, Nat.le_trans (hro a hma) (by decide), Nat.le_trans w1 (by decide), Nat.le_trans w2 (by decide), fun y hy => Nat.le_trans (w3 y hy).1 (by decide), fun H6 p s6 hp0 hp => ?_⟩
        have h6 := h4.new s6
        have k6 : ∀ q o, H2 q = some o → ¬ M q → H6 q = some o := fun q o e n => s6 q o (k4 q o e n)
        refine ⟨_, rfl, !((rowWords a).map V.str).isEmpty, .inl ⟨_, SqL.of hp, rfl⟩, ?_⟩
        rcases readGo_cons g3 with ⟨ew, g4⟩ | ⟨ew, rd2, e4, g4⟩
        · rw [ew]
          refine iteF ⟨xs, rdk, _, _, _, rfl, h6, k6, em, ?_, f3⟩
          rw [show ((i + 1 : Nat) : Int) = (i : Int) + 1 by omega]
          exact g4
        · rw [show (!((rowWords a).map V.str).isEmpty) = true by
            cases e : rowWords a with
            | nil => exact absurd e ew
            | cons _ _ => rfl]
          have hw2 : ∀ z ∈ rowWords a, z.length ≤ 640 ∧ PyData.strOk z = true := fun z hz => w3 z (List.mem_filter.mp hz).1
          have hl2 : (rowWords a).length ≤ 1000 := Nat.le_trans (List.length_filter_le _ _) w2
          have e5 := readRow_plain hp1 hp2 h3.beg e4
          refine iteT ⟨_, rfl, _, rfl, _, rfl, M, ⟨x, dx, m, r, xs, []⟩, rdk, rd2, (i : Int), p, rowWords a, rfl, h6, ⟨cut_at hp (h4.ok.new hp0), hl2, fun z hz => (hw2 z hz).1, ew⟩, fun z hz => (hw2 z hz).2, hp1, hp2, em, e5, fun H7 zs h7 k7 f7 => ?_⟩
          refine ⟨xs ++ zs, rd2, _, _, _, rfl, h7, fun q o e n => k7 q o (k6 q o e n) (fun z => n (by rw [z]; exact h3.mx)) (fun z => n (by rw [z]; exact h3.mr)), (putGo_plain _ e5).trans em, ?_, fun y hy => ?_⟩
          · rw [show ((i + 1 : Nat) : Int) = (i : Int) + 1 by omega]
            exact g4
          · rcases List.mem_append.mp hy with z | z
            · exact f3 y z
            · cases e : H y with
              | none => rfl
              | some o =>
                have nm : ¬ M y := fun z => by
                  rw [mH y z] at e
                  cases e
                have := k6 y o (s2 _ _ (s1 _ _ e)) nm
                rw [f7 y z] at this
                cases this
      · rintro σ H3 ⟨xs, rdk, y2, y3, y4, rfl, h3, k3, em, g3, f3⟩
        have ln : (ys.map V.str).length = (ys.map rowWords).length := by rw [List.length_map, List.length_map]
        rw [ln, List.drop_length] at g3
        have e1 : rdk = rdF := Except.ok.inj g3
        subst e1
        rw [if_neg (by rw [h3.beg]; decide)] at hm
        have e2 : rdk.rows = rows := Except.ok.inj hm
        refine ⟨_, rfl, x, CR, dx, _, _, rfl, h3.x, MD.cl, MD.begun, rfl, rfl, _, rfl, ?_⟩
        refine iteF ⟨_, rfl, x, CR, dx, _, _, rfl, h3.x, MD.cl, MD.rows, rfl, ?_⟩
        refine k H3 _ r xs (fun q o e => ?_) zr0 h3.r (by rw [← e2]; exact rows_at h3.nd h3.rows) (by rw [← e2]; exact h3.few) f3
        exact k3 q o (s2 _ _ (s1 _ _ e)) (fun z => by
          rw [mH q z] at e
          cases e)
end
end Rs
/-! what is given, known, settled: each name that stands in a sum is worth something when it is asked -/
namespace Rs
open PySem PySem.Spec PyProof.Rows L2 C8
theorem stat_step (early : List (Str × Int)) (R : Rm) : statR (stepR early R) = statR R := by
  unfold stepR
  split <;> rfl
theorem stat_known {g : List Str} : ∀ {rows rows' : List Rm} {early : List (Str × Int)}, knownM g rows early = .ok rows' → rows'.map statR = rows.map statR
  | [], rows', early, h => by
    have : rows' = [] := (Except.ok.inj h).symm
    rw [this]
  | R :: r, rows', early, h => by
    obtain ⟨_, _, t, rfl, h2⟩ := knownM_cons h
    rw [List.map_cons, List.map_cons, stat_step, stat_known h2]
theorem known_all {g : List Str} : ∀ {rows rows' : List Rm} {early : List (Str × Int)}, knownM g rows early = .ok rows' → ∀ R ∈ rows, ∀ L ∈ R.sums, ∀ n ∈ namesIn L, n ≠ ("here" : Str) → n ∈ g
  | [], rows', early, h, R, hR => by cases hR
  | S :: r, rows', early, h, R, hR => by
    obtain ⟨h1, _, t, rfl, h2⟩ := knownM_cons h
    rcases List.mem_cons.mp hR with z | z
    · subst z
      intro L hL n hn hh
      have := List.all_eq_true.mp (List.all_eq_true.mp h1 L hL) n hn
      rw [Bool.or_eq_true, decide_eq_true_eq, decide_eq_true_eq] at this
      exact this.resolve_left hh
    · exact known_all h2 R z
/-- what givenM has gathered: labels and what is rows give, each once -/
theorem given_all : ∀ {rows : List Rm} {g0 g : List Str}, givenM rows g0 = .ok g → (∀ n ∈ g, n ∈ g0 ∨ (∃ R ∈ rows, R.label = n ∧ n ≠ "") ∨ ∃ R ∈ rows, R.gives = n ∧ n ≠ "") ∧ (∀ n ∈ g0, n ∈ g) ∧ (∀ R ∈ rows, R.gives ≠ "" → R.gives ∈ g ∧ R.gives ∉ g0) ∧ ((rows.filter fun R : Rm => decide (R.gives ≠ ("" : Str))).map (·.gives)).Nodup
  | [], g0, g, h => by
    have : g0 = g := Except.ok.inj h
    rw [this]
    exact ⟨fun n hn => .inl hn, fun n hn => hn, fun R hR => (by cases hR), List.nodup_nil⟩
  | R :: r, g0, g, h => by
    obtain ⟨g1, g2, e1, e2, e3⟩ := givenM_cons h
    obtain ⟨a1, a2, a3, a4⟩ := given_all e3
    obtain ⟨n1, alt1⟩ := giveM_ok e1
    obtain ⟨n2, alt2⟩ := giveM_ok e2
    have s1 : ∀ n ∈ g0, n ∈ g1 := fun n hn => by
      rcases alt1 with ⟨_, z⟩ | ⟨_, z⟩ <;> rw [z]
      · exact hn
      · exact List.mem_append_left _ hn
    have s2 : ∀ n ∈ g1, n ∈ g2 := fun n hn => by
      rcases alt2 with ⟨_, z⟩ | ⟨_, z⟩ <;> rw [z]
      · exact hn
      · exact List.mem_append_left _ hn
    refine ⟨fun n hn => ?_, fun n hn => a2 n (s2 n (s1 n hn)), fun S hS hne => ?_, ?_⟩
    · rcases a1 n hn with z | ⟨S, hS, z⟩ | ⟨S, hS, z⟩
      · have in1 : n ∈ g1 ∨ (R.gives = n ∧ n ≠ "") := by
          rcases alt2 with ⟨_, y⟩ | ⟨y0, y⟩
          · rw [y] at z
            exact .inl z
          · rw [y] at z
            rcases List.mem_append.mp z with x | x
            · exact .inl x
            · have := List.mem_singleton.mp x
              exact .inr ⟨this.symm, by rw [this]; exact y0⟩
        rcases in1 with z | z
        · rcases alt1 with ⟨_, y⟩ | ⟨y0, y⟩
          · rw [y] at z
            exact .inl z
          · rw [y] at z
            rcases List.mem_append.mp z with x | x
            · exact .inl x
            · have := List.mem_singleton.mp x
              exact .inr (.inl ⟨R, List.mem_cons_self, this.symm, by rw [this]; exact y0⟩)
        · exact .inr (.inr ⟨R, List.mem_cons_self, z⟩)
      · exact .inr (.inl ⟨S, List.mem_cons_of_mem _ hS, z⟩)
      · exact .inr (.inr ⟨S, List.mem_cons_of_mem _ hS, z⟩)
    · rcases List.mem_cons.mp hS with z | z
      · subst z
        refine ⟨a2 _ ?_, fun y => n2 (s1 _ y)⟩
        rcases alt2 with ⟨y, _⟩ | ⟨_, y⟩
        · exact absurd y hne
        · rw [y]
          exact List.mem_append_right _ List.mem_cons_self
      · obtain ⟨b1, b2⟩ := a3 S z hne
        exact ⟨b1, fun y => b2 (s2 _ (s1 _ y))⟩
    · rw [List.filter_cons]
      by_cases q : R.gives ≠ ""
      · rw [if_pos (decide_eq_true q), List.map_cons]
        refine List.nodup_cons.mpr ⟨fun hm => ?_, a4⟩
        obtain ⟨S, hS, eS⟩ := List.mem_map.mp hm
        obtain ⟨hS1, hS2⟩ := List.mem_filter.mp hS
        have hS2 := of_decide_eq_true hS2
        refine (a3 S hS1 hS2).2 ?_
        rw [eS]
        rcases alt2 with ⟨y, _⟩ | ⟨_, y⟩
        · exact absurd y q
        · rw [y]
          exact List.mem_append_right _ List.mem_cons_self
      · rw [if_neg (by simpa using q)]
        exact a4
theorem is_nodup {rows : List Rm} (h : ((rows.filter fun R : Rm => decide (R.gives ≠ ("" : Str))).map (·.gives)).Nodup) (gv : ∀ R ∈ rows, R.gives ≠ "" ↔ R.op = ("is" : Str)) : ((isRows rows).map fun R => R.1.gives).Nodup := by
  have e : (isRows rows).map (fun R => R.1.gives) = (rows.filter fun R : Rm => decide (R.gives ≠ ("" : Str))).map (·.gives) := by
    unfold isRows
    have go : ∀ (l : List Rm) (k : Nat), (∀ R ∈ l, R.gives ≠ "" ↔ R.op = ("is" : Str)) → ((l.zipIdx k).filter fun R : Ri => decide (R.1.op = ("is" : Str))).map (fun R => R.1.gives) = (l.filter fun R : Rm => decide (R.gives ≠ ("" : Str))).map (·.gives) := fun l => by
      induction l with
      | nil => exact fun k _ => rfl
      | cons R r ih =>
        intro k hk
        have ih := ih (k + 1) (fun S hS => hk S (List.mem_cons_of_mem _ hS))
        rw [List.zipIdx_cons, List.filter_cons, List.filter_cons]
        by_cases q : R.op = ("is" : Str)
        · rw [if_pos (by exact decide_eq_true q), if_pos (decide_eq_true ((hk R List.mem_cons_self).mpr q)), List.map_cons, List.map_cons, ih]
        · rw [if_neg (by simpa using q), if_neg (by simpa using fun z => q ((hk R List.mem_cons_self).mp z)), ih]
    exact go rows 0 gv
  rw [e]
  exact h
theorem chain_snoc {rows : List Rm} {R : Rm} {j : Nat} (e : rows[j]? = some R) (ho : R.op = ("is" : Str)) : ∀ (ord : List Nat) {ks : Str → Prop}, ChainK rows ord ks → (∀ n ∈ namesIn R.sum0, n ≠ ("here" : Str) → ks n ∨ ∃ i ∈ ord, ∃ S, rows[i]? = some S ∧ S.gives = n) → ChainK rows (ord ++ [j]) ks
  | [], ks, _, h => ⟨R, e, ho, fun n hn hh => (h n hn hh).resolve_right (fun ⟨i, hi, _⟩ => by cases hi), trivial⟩
  | i :: r, ks, ⟨S, eS, oS, nS, cS⟩, h => by
    refine ⟨S, eS, oS, nS, chain_snoc e ho r cS fun n hn hh => ?_⟩
    rcases h n hn hh with z | ⟨i2, hi2, S2, e2, g2⟩
    · exact .inl (.inl z)
    · rcases List.mem_cons.mp hi2 with y | y
      · rw [y, eS] at e2
        cases e2
        exact .inl (.inr g2.symm)
      · exact .inr ⟨i2, y, S2, e2, g2⟩
/-- what holds while is rows are settled -/
structure SetI (rows : List Rm) (wt : List Ri) (uns : List Str) (ord : List Nat) : Prop where
  at_ : ∀ R ∈ wt, rows[R.2]? = some R.1 ∧ R.1.op = ("is" : Str)
  sub : ∀ R ∈ wt, R.1.gives ∈ uns
  nd : (wt.map fun R => R.1.gives).Nodup
  all : ∀ (j : Nat) (S : Rm), rows[j]? = some S → S.op = ("is" : Str) → j ∈ ord ∨ (S, j) ∈ wt
  chain : ChainK rows ord (isLabel rows)
theorem round_ok {rows : List Rm} (hk : ∀ R ∈ rows, ∀ L ∈ R.sums, ∀ n ∈ namesIn L, n ≠ ("here" : Str) → isLabel rows n ∨ ∃ S ∈ rows, S.gives = n ∧ S.op = ("is" : Str)) (h1 : ∀ R ∈ rows, R.op = ("is" : Str) → R.sums.length = 1) : ∀ (wt still : List Ri) (uns : List Str) (ord : List Nat) {uns' : List Str} {still' : List Ri} {ord' : List Nat}, SetI rows (still ++ wt) uns ord → roundM wt uns still ord = (uns', still', ord') → SetI rows still' uns' ord'
  | [], still, uns, ord, uns', still', ord', h, e => by
    rw [List.append_nil] at h
    have e : (uns, still, ord) = (uns', still', ord') := e
    cases e
    exact h
  | R :: wt, still, uns, ord, uns', still', ord', h, e => by
    rw [roundM_cons] at e
    by_cases q : hangsM uns R.1 = true
    · rw [if_pos q] at e
      refine round_ok hk h1 wt (still ++ [R]) uns ord ?_ e
      rw [List.append_assoc]
      exact h
    · rw [if_neg q] at e
      have mR : R ∈ still ++ R :: wt := List.mem_append_right _ List.mem_cons_self
      obtain ⟨aR, oR⟩ := h.at_ R mR
      have sub : ∀ S ∈ still ++ wt, S ∈ still ++ R :: wt := fun S hS => by
        rcases List.mem_append.mp hS with y | y
        · exact List.mem_append_left _ y
        · exact List.mem_append_right _ (List.mem_cons_of_mem _ y)
      have nd := h.nd
      rw [List.map_append, List.map_cons] at nd
      obtain ⟨n1, n2, n3⟩ := List.nodup_append.mp nd
      have hnR : ∀ S ∈ still ++ wt, S.1.gives ≠ R.1.gives := fun S hS z => by
        rcases List.mem_append.mp hS with y | y
        · exact n3 _ (List.mem_map.mpr ⟨S, y, rfl⟩) _ List.mem_cons_self z
        · exact (List.nodup_cons.mp n2).1 (by rw [← z]; exact List.mem_map.mpr ⟨S, y, rfl⟩)
      refine round_ok hk h1 wt still _ (ord ++ [R.2]) ⟨fun S hS => h.at_ S (sub S hS), fun S hS => List.mem_filter.mpr ⟨h.sub S (sub S hS), decide_eq_true (hnR S hS)⟩, ?_, fun j S eS oS => ?_, ?_⟩ e
      · rw [List.map_append]
        exact List.nodup_append.mpr ⟨n1, (List.nodup_cons.mp n2).2, fun a ha b hb => n3 a ha b (List.mem_cons_of_mem _ hb)⟩
      · rcases h.all j S eS oS with z | z
        · exact .inl (List.mem_append_left _ z)
        · rcases List.mem_append.mp z with y | y
          · exact .inr (List.mem_append_left _ y)
          · rcases List.mem_cons.mp y with x | x
            · refine .inl (List.mem_append_right _ ?_)
              rw [← x]
              exact List.mem_cons_self
            · exact .inr (List.mem_append_right _ x)
      · refine chain_snoc aR oR ord h.chain fun n hn hh => ?_
        have mr := List.mem_of_getElem? aR
        rcases hk R.1 mr R.1.sum0 (sum0_mem (h1 _ mr oR)) n hn hh with z | ⟨S, hS, gS, oS⟩
        · exact .inl z
        · obtain ⟨j, hj, rfl⟩ := List.mem_iff_getElem.mp hS
          rcases h.all j _ (List.getElem?_eq_getElem hj) oS with z | z
          · exact .inr ⟨j, z, _, List.getElem?_eq_getElem hj, gS⟩
          · refine absurd ?_ q
            unfold hangsM
            refine List.any_eq_true.mpr ⟨n, hn, decide_eq_true ?_⟩
            rw [← gS]
            exact h.sub _ z
theorem settled_ok {rows : List Rm} (hk : ∀ R ∈ rows, ∀ L ∈ R.sums, ∀ n ∈ namesIn L, n ≠ ("here" : Str) → isLabel rows n ∨ ∃ S ∈ rows, S.gives = n ∧ S.op = ("is" : Str)) (h1 : ∀ R ∈ rows, R.op = ("is" : Str) → R.sums.length = 1) : ∀ (n : Nat) (wt : List Ri) (uns : List Str) (ord res : List Nat), SetI rows wt uns ord → settledGo n wt uns ord = .ok res → ∃ uns', SetI rows [] uns' res
  | n, [], uns, ord, res, h, e => by
    have : ord = res := by
      cases n <;> exact Except.ok.inj e
    rw [← this]
    exact ⟨uns, h⟩
  | 0, _ :: _, uns, ord, res, h, e => by cases e
  | n + 1, R :: wt, uns, ord, res, h, e => by
    obtain ⟨m, uns', still, ord', em, er, _, e2⟩ := settledGo_cons e (List.cons_ne_nil _ _)
    obtain rfl : n = m := Nat.succ.inj em
    exact settled_ok hk h1 n still uns' ord' res (round_ok hk h1 (R :: wt) [] uns ord h er) e2
def gvS (s : Int × Str × Str × List Int × List (List Pp) × Str) : Option Str := if s.2.2.2.2.2 ≠ ("" : Str) then some s.2.2.2.2.2 else none
theorem keyed_of {rows0 rows : List Rm} {g : List Str} {ord : List Nat} (gv : ∀ R ∈ rows0, R.gives ≠ "" ↔ R.op = ("is" : Str)) (one : ∀ R ∈ rows0, R.op = ("is" : Str) → R.sums.length = 1) (e1 : givenM rows0 [] = .ok g) (e2 : knownM g rows0 [] = .ok rows) (e3 : settledM rows = .ok ord) :
    Keyed rows ord ∧ ((isRows rows).map fun R => R.1.gives).Nodup := by
  have st := stat_known e2
  have gv' : ∀ R ∈ rows, R.gives ≠ "" ↔ R.op = ("is" : Str) := fun R hR => by
    obtain ⟨R0, m0, s0⟩ := stat_mem st.symm hR
    rw [← st_gives s0, ← st_op s0]
    exact gv R0 m0
  have one' : ∀ R ∈ rows, R.op = ("is" : Str) → R.sums.length = 1 := fun R hR o => by
    obtain ⟨R0, m0, s0⟩ := stat_mem st.symm hR
    rw [← st_sums s0]
    exact one R0 m0 ((st_op s0).trans o)
  obtain ⟨a1, _, _, a4⟩ := given_all e1
  have hk : ∀ R ∈ rows, ∀ L ∈ R.sums, ∀ n ∈ namesIn L, n ≠ ("here" : Str) → isLabel rows n ∨ ∃ S ∈ rows, S.gives = n ∧ S.op = ("is" : Str) := fun R hR L hL n hn hh => by
    obtain ⟨R0, m0, s0⟩ := stat_mem st.symm hR
    have hg := known_all e2 R0 m0 L (by rw [st_sums s0]; exact hL) n hn hh
    rcases a1 n hg with z | ⟨S, hS, z⟩ | ⟨S, hS, z1, z2⟩
    · cases z
    · exact .inl (label_stat st ⟨S, hS, z⟩)
    · obtain ⟨S', m', s'⟩ := stat_mem st hS
      exact .inr ⟨S', m', (st_gives s').trans z1, (st_op s').trans ((gv S hS).mp (by rw [z1]; exact z2))⟩
  have nd : ((isRows rows).map fun R => R.1.gives).Nodup := by
    refine is_nodup ?_ gv'
    have e : (rows.filter fun R : Rm => decide (R.gives ≠ ("" : Str))).map (·.gives) = (rows0.filter fun R : Rm => decide (R.gives ≠ ("" : Str))).map (·.gives) := by
      have go : ∀ l : List Rm, (l.filter fun R : Rm => decide (R.gives ≠ ("" : Str))).map (·.gives) = (l.map statR).filterMap gvS := fun l => by
        induction l with
        | nil => rfl
        | cons R r ih =>
          rw [List.filter_cons, List.map_cons]
          by_cases q : R.gives ≠ ("" : Str)
          · rw [if_pos (decide_eq_true q), List.filterMap_cons_some (show gvS (statR R) = some R.gives from if_pos q), List.map_cons, ih]
          · rw [if_neg (by simpa using q), List.filterMap_cons_none (show gvS (statR R) = none from if_neg q), ih]
      rw [go, go, st]
    rw [e]
    exact a4
  refine ⟨?_, nd⟩
  unfold settledM at e3
  have mem_is : ∀ {R : Ri}, R ∈ isRows rows → rows[R.2]? = some R.1 ∧ R.1.op = ("is" : Str) := fun {R} hR => ⟨zipIdx_at (List.mem_filter.mp hR).1, of_decide_eq_true (List.mem_filter.mp hR).2⟩
  obtain ⟨uns', h⟩ := settled_ok hk one' (isRows rows).length (isRows rows) ((isRows rows).map fun R : Ri => R.1.gives) [] ord ⟨fun R hR => mem_is hR, fun R hR => List.mem_map.mpr ⟨R, hR, rfl⟩, nd, fun j S eS oS => .inr (List.mem_filter.mpr ⟨List.mem_of_getElem? (i := j) (by rw [List.getElem?_zipIdx, eS] <;> simp), decide_eq_true oS⟩), trivial⟩ e3
  refine ⟨h.chain, fun R hR L hL n hn hh => ?_⟩
  rcases hk R hR L hL n hn hh with z | ⟨S, hS, gS, oS⟩
  · exact .inl z
  · obtain ⟨j, hj, rfl⟩ := List.mem_iff_getElem.mp hS
    rcases h.all j _ (List.getElem?_eq_getElem hj) oS with z | z
    · exact .inr ⟨j, z, _, List.getElem?_eq_getElem hj, gS⟩
    · cases z
end Rs
/-! placing.py: page_of; writing.py: written, listed -/
namespace Rs
open PySem PySem.Spec PyProof.Rows L2 C8
theorem settle_placed : ∀ (n : Nat) (rows : List Rm) (ord : List Nat) {pg : Pg}, settleM n rows ord = some pg → ∃ rows', pg.rows = placeM rows' 0 ∧ pg.stop = endM rows' 0
  | 0, _, _, _, h => by cases h
  | n + 1, rows, ord, pg, h => by
    have h : (if (placeM rows 0).any (growing (worthsM (placeM rows 0) ord)) = true then settleM n (grownM (worthsM (placeM rows 0) ord) (placeM rows 0)) ord else some ⟨placeM rows 0, worthsM (placeM rows 0) ord, endM rows 0⟩) = some pg := h
    by_cases q : (placeM rows 0).any (growing (worthsM (placeM rows 0) ord)) = true
    · rw [if_pos q] at h
      exact settle_placed n _ ord h
    · rw [if_neg q] at h
      cases h
      exact ⟨rows, rfl, rfl⟩
/-- rows that have room lie one behind the other -/
theorem room_ok : ∀ (rows : List Rm) (p : Int), 0 ≤ p → p ≤ 256 → roomM (placeM rows p) = .ok () → (∀ R ∈ placeM rows p, 0 ≤ R.place ∧ 0 ≤ sizeM R ∧ R.place + sizeM R ≤ endM rows p) ∧ p ≤ endM rows p ∧ endM rows p ≤ 256
  | [], p, h0, h1, _ => ⟨fun R hR => (by cases hR), Int.le_refl _, h1⟩
  | R :: r, p, h0, h1, h => by
    rw [placeM_cons] at h ⊢
    obtain ⟨n1, n2, n3, h⟩ := roomM_cons h
    have es : sizeM { R with place := p } = sizeM R := rfl
    rw [es] at n2 n3
    have n3 : ¬ p + sizeM R > 256 := n3
    have hn : p ≤ nextM R p ∧ nextM R p ≤ 256 ∧ p + sizeM R ≤ nextM R p := by
      unfold nextM
      by_cases q : R.op = ("at" : Str)
      · rw [if_pos q]
        have : R.place ≤ R.place := Int.le_refl _
        have z : p ≤ R.amount ∧ R.amount ≤ 256 := Classical.byContradiction fun y => n1 ⟨q, y⟩
        have s0 : sizeM R = 0 := by
          unfold sizeM
          rw [if_pos (by unfold wordless; rw [q]; decide)]
        exact ⟨z.1, z.2, by rw [s0]; omega⟩
      · rw [if_neg q]
        exact ⟨by omega, by omega, Int.le_refl _⟩
    obtain ⟨a, b, c⟩ := room_ok r (nextM R p) (by omega) hn.2.1 h
    rw [endM_cons]
    refine ⟨fun S hS => ?_, by omega, c⟩
    rcases List.mem_cons.mp hS with z | z
    · rw [z]
      exact ⟨h0, by rw [es]; omega, by rw [es]; show p + sizeM R ≤ _; omega⟩
    · exact a S z
theorem shape_size {o : Str} {nb nn : Nat} (h : shapeM o = some (nb, nn)) (h1 : o ≠ ("at" : Str)) (h2 : o ≠ ("room" : Str)) (h3 : o ≠ ("take" : Str)) : sizeOp o = 1 + (nn : Int) := by
  unfold shapeM at h
  rw [if_neg h3, if_neg (fun z => z.elim h1 h2)] at h
  unfold sizeOp
  rw [if_neg h3]
  cases e : codes.find? (fun c => decide (c.1.str = o)) with
  | none =>
    rw [e] at h
    cases h
  | some c =>
    rw [e] at h
    cases h
    rfl
theorem words_len {m : List (Str × Int)} {R : Rm} {ws : List Int} (hw : WfR R) (h0 : 0 ≤ sizeM R) (h : wordsM m R = .ok ws) : (ws.length : Int) = sizeM R := by
  unfold wordsM at h
  unfold sizeM at h0 ⊢
  by_cases q : wordless R.op = true
  · rw [if_pos q] at h ⊢
    rw [← Except.ok.inj h] <;> rfl
  rw [if_neg q] at h h0 ⊢
  have nw : R.op ∉ (["", "is", "at"] : List Str) := of_decide_eq_false (show wordless R.op = false from by simpa using q)
  by_cases q1 : R.op = ("room" : Str)
  · rw [if_pos q1] at h h0 ⊢
    rw [← Except.ok.inj h, List.length_replicate]
    omega
  rw [if_neg q1] at h h0 ⊢
  cases e : mapE (fun L => fitM R (worthM m R.place L)) R.sums with
  | error z =>
    rw [e] at h
    cases h
  | ok ns =>
    rw [e] at h
    have hl := (mapE_al e).1
    have h : (if R.op = ("word" : Str) then (Except.ok ns : Re (List Int)) else if R.op = ("take" : Str) ∧ R.long = false then .ok [144 + 8 * R.boxes.headD 0 + ns.headD 0] else .ok (firstW (if R.op = ("take" : Str) then "take!" else R.op) R.boxes :: ns)) = .ok ws := h
    by_cases q2 : R.op = ("word" : Str)
    · rw [if_pos q2] at h ⊢
      rw [← Except.ok.inj h, hl]
    rw [if_neg q2] at h ⊢
    by_cases q3 : R.op = ("take" : Str)
    · obtain ⟨_, w2⟩ := wf_take hw q3
      cases el : R.long with
      | false =>
        rw [if_pos ⟨q3, el⟩] at h
        rw [if_neg (fun z => by cases z.2), ← Except.ok.inj h]
        unfold sizeOp
        rw [if_pos q3] <;> rfl
      | true =>
        rw [if_neg (fun z => by rw [el] at z; cases z.2)] at h
        rw [if_pos ⟨q3, rfl⟩, ← Except.ok.inj h, List.length_cons, ← hl, w2] <;> rfl
    · rw [if_neg (fun z => q3 z.1)] at h ⊢
      rw [← Except.ok.inj h, List.length_cons, ← hl]
      rcases hw with ⟨z, _⟩ | ⟨z, _⟩ | z | ⟨nb, nn, z, z1, z2⟩
      · exact absurd (by rw [z]; decide) nw
      · exact absurd (by rw [z]; decide) nw
      · exact absurd z q2
      · rw [shape_size z (fun y => nw (by rw [y]; decide)) q1 q3, z2]
        omega
theorem stat_wf {R R' : Rm} (h : statR R' = statR R) (w : WfR R) : WfR R' := by
  have e1 := st_op h
  have e2 := st_sums h
  have e3 : R'.boxes = R.boxes := congrArg (fun z => z.2.2.2.1) h
  unfold WfR at w ⊢
  rw [e1, e2, e3]
  exact w
/-- pageL by its steps -/
theorem page_cases {lines : List (List Str)} {pg : Pg} (h : pageL lines = .ok pg) : ∃ rows0 g rows ord P0 rs, readM lines = .ok rows0 ∧ givenM rows0 [] = .ok g ∧ knownM g rows0 [] = .ok rows ∧ settledM rows = .ok ord ∧ settleM (rows.length + 1) rows ord = some P0 ∧ roomM P0.rows = .ok () ∧ wordsAll P0.worths P0.rows = .ok rs ∧ pg = { P0 with rows := rs } := by
  unfold pageL at h
  cases e1 : readM lines with
  | error z => simp only [e1] at h; cases h
  | ok rows0 =>
    simp only [e1] at h
    cases e2 : givenM rows0 [] with
    | error z => simp only [e2] at h; cases h
    | ok g =>
      simp only [e2] at h
      cases e3 : knownM g rows0 [] with
      | error z => simp only [e3] at h; cases h
      | ok rows =>
        simp only [e3] at h
        cases e4 : settledM rows with
        | error z => simp only [e4] at h; cases h
        | ok ord =>
          simp only [e4] at h
          cases e5 : settleM (rows.length + 1) rows ord with
          | none => simp only [e5] at h; cases h
          | some P0 =>
            simp only [e5] at h
            cases e6 : roomM P0.rows with
            | error z => simp only [e6] at h; cases h
            | ok u =>
              simp only [e6] at h
              cases e7 : wordsAll P0.worths P0.rows with
              | error z => simp only [e7] at h; cases h
              | ok rs =>
                simp only [e7] at h
                exact ⟨rows0, g, rows, ord, P0, rs, rfl, e2, e3, e4, e5, e6, e7, (Except.ok.inj h).symm⟩
theorem wordsR_ok {m : List (Str × Int)} {R R' : Rm} (h : wordsR m R = .ok R') : ∃ ws, wordsM m R = .ok ws ∧ R' = { R with words := ws } := by
  unfold wordsR at h
  cases e : wordsM m R with
  | error z =>
    rw [e] at h
    cases h
  | ok ws =>
    rw [e] at h
    exact ⟨ws, rfl, (Except.ok.inj h).symm⟩
theorem round_len : ∀ (wt : List Ri) (uns : List Str) (still : List Ri) (ord : List Nat) {uns' : List Str} {still' : List Ri} {ord' : List Nat}, roundM wt uns still ord = (uns', still', ord') → still'.length + ord'.length = still.length + ord.length + wt.length
  | [], uns, still, ord, uns', still', ord', h => by
    have h : (uns, still, ord) = (uns', still', ord') := h
    cases h
    rfl
  | R :: r, uns, still, ord, uns', still', ord', h => by
    rw [roundM_cons] at h
    by_cases q : hangsM uns R.1 = true
    · rw [if_pos q] at h
      have := round_len r _ _ _ h
      rw [List.length_append] at this
      rw [List.length_cons]
      have e : [R].length = 1 := rfl
      omega
    · rw [if_neg q] at h
      have := round_len r _ _ _ h
      rw [List.length_append] at this
      rw [List.length_cons]
      have e : [R.2].length = 1 := rfl
      omega
theorem settled_len : ∀ (n : Nat) (wt : List Ri) (uns : List Str) (ord res : List Nat), settledGo n wt uns ord = .ok res → res.length = ord.length + wt.length
  | n, [], uns, ord, res, e => by
    have : ord = res := by
      cases n <;> exact Except.ok.inj e
    rw [this] <;> rfl
  | 0, _ :: _, uns, ord, res, e => by cases e
  | n + 1, R :: wt, uns, ord, res, e => by
    obtain ⟨m, uns', still, ord', em, er, _, e2⟩ := settledGo_cons e (List.cons_ne_nil _ _)
    obtain rfl : n = m := Nat.succ.inj em
    have h1 := settled_len n still uns' ord' res e2
    have h2 := round_len _ _ _ _ er
    have e : ([] : List Ri).length = 0 := rfl
    omega
section
variable {P : Program} {w : World} {K : PySem.W.Frag} {mg : Str → Option Value} {base : Heap} {C CP : Addr}
theorem RowsAt.cutd {I H : Hp} {xs : List Addr} {Rs : List Rm} (h : RowsAt C I H xs Rs) : RowsAt C (cut (fun q => q ∈ xs) H) H xs Rs := by
  have ok : MOk (fun q => q ∈ xs) H := fun q hq => by
    obtain ⟨dx, fs, e⟩ := h.obj hq
    exact ⟨_, e, fun ys z => by cases z⟩
  refine ⟨cut_sub _ _, h.nd, h.at_.1, fun i x R e1 e2 => ?_⟩
  obtain ⟨dx, b, s, t, g1, _, g2⟩ := h.at_.2 i x R e1 e2
  obtain ⟨ts, g3, g4⟩ := g2.s
  have sb := h.sub
  refine ⟨dx, b, s, t, g1, ?_, ⟨cut_at (sb _ _ g2.b) (h.notIn (sb _ _ g2.b) (fun _ _ z => by cases z)), ⟨ts, cut_at (sb _ _ g3) (h.notIn (sb _ _ g3) (fun _ _ z => by cases z)), cut_sums ok (g4.same sb)⟩, cut_at (sb _ _ g2.t) (ok.tup (sb _ _ g2.t)), g2.sg, g2.wf, g2.few, g2.lab, g2.gv⟩⟩
  unfold cut
  rw [if_pos (List.mem_of_getElem? e1)]
def spPage (K : PySem.W.Frag) (C CP : Addr) : Sp := fun vs H Q _ => ∃ (text : Str) (pg : Pg), vs = [.str text] ∧ TextOk text ∧ PlainL (linesOf text) ∧ Tabs K H ∧ pageM text = .ok pg ∧
  ∀ (H' I : Hp) (x dx r d : Addr) (xs : List Addr), Same H H' → H' x = some (.ins CP dx (pgf r d pg.stop)) → H' r = some (.lst (xs.map V.ref)) → RowsAt C I H' xs pg.rows → H' d = some (.dK (kv V.int pg.worths)) → pg.rows.length ≤ 400 → (∀ R ∈ pg.rows, 0 ≤ R.place ∧ R.place + R.words.length ≤ pg.stop) → 0 ≤ pg.stop → pg.stop ≤ 256 → H x = none → H r = none → H d = none → Q (.ref x) H'
theorem ok_page_of (D : DefAt K mg "page_of" sD_page_of) (T : Txt w K mg) (MR : TxtR K C) (MP : TxtP K CP) (c_read : Cal P w K mg base 11 "read" (spRead K C) []) (c_check_given : Cal P w K mg base 1 "check_given" (spGiven C) []) (c_check_known : Cal P w K mg base 3 "check_known" (spKnownAll K C) []) (c_settled_first : Cal P w K mg base 2 "settled_first" (spSettled K C) []) (c_settle : Cal P w K mg base 4 "settle" (spSettle C CP) []) (c_check_room : Cal P w K mg base 3 "check_room" (spRoom C) []) (c_words_of : Cal P w K mg base 4 "words_of" (spWordsOf C) []) : Cal P w K mg base 12 "page_of" (spPage K C CP) [] := by
  refine cal_of D sc_page_of (fun _ _ _ _ _ _ us hl => match us, hl with | [_], _ => rfl) (fun vs H Q E h => ?_) (fun cdv Ar outer s H vs Q E hr h => ?_)
  · obtain ⟨text, pg, rfl, _⟩ := h
    rfl
  · obtain ⟨text, pg, rfl, hK, hP, hT, hm, k⟩ := h
    refine ⟨_, (pss_cons (ps_set (i := 1) sc_page_of.nd rfl (Or.inl rfl) (pe_c c_read hr (by decide) (by rfl) (pa_cons (pv 0) pa_nil)))
  (pss_cons (ps_expr (pe_c c_check_known hr (by decide) (by rfl) (pa_cons (pv 1) (pa_cons (pe_c c_check_given hr (by decide) (by rfl) (pa_cons (pv 1) pa_nil)) pa_nil))))
  (pss_cons (ps_set (i := 2) sc_page_of.nd rfl (Or.inl rfl) (pe_c c_settle hr (by decide) (by rfl) (pa_cons (pv 1) (pa_cons (pe_c c_settled_first hr (by decide) (by rfl) (pa_cons (pv 1) pa_nil)) pa_nil))))
  (pss_cons (ps_expr (pe_c c_check_room hr (by decide) (by rfl) (pa_cons (pv 1) pa_nil)))
  (pss_cons (ps_for PassesOwn.never rfl (pi_list (pv 1)) (pg_name (i := 3) sc_page_of.nd rfl (Or.inl rfl))
   (pss_one (ps_fld (pv 3) (pe_c c_words_of hr (by decide) (by rfl) (pa_cons (pv 3) (pa_cons (pe_fld (pv 2) rfl) pa_nil))) rfl)))
  (pss_one (ps_ret (pv 2)))))))), ?_⟩
    obtain ⟨rows0, g, rows, ord, P0, rs, e1, e2, e3, e4, e5, e6, e7, rfl⟩ := page_cases hm
    refine ⟨_, rfl, text, rows0, rfl, hK, hP, hT, e1, fun H1 I r xs s1 zr hr1 hR few fx => ?_⟩
    have hT1 := hT.same s1
    -- given, known
    have labs := hR.labs
    have wf0 : ∀ R ∈ rows0, WfR R := fun R mR => by
      obtain ⟨i, hi, rfl⟩ := List.mem_iff_getElem.mp mR
      obtain ⟨x, e, dx, b, s, t, _, _, z⟩ := hR.at_.get' (List.getElem?_eq_getElem hi)
      exact z.wf
    obtain ⟨hKey, hnd⟩ := keyed_of hR.gvs (fun R mR o => wf_one (wf0 R mR) (.inr (.inr o))) e2 e3 e4
    have st1 := stat_known e3
    have ln1 : rows.length = rows0.length := stat_len st1
    refine ⟨_, rfl, _, rfl, r, I, xs, rows0, g, rfl, hr1, hR, by omega, labs, e2, fun H2 d s2 zd hd => ?_⟩
    refine ⟨r, d, I, xs, rows0, rows, g, rfl, s2 _ _ hr1, hR.same s2, hd, hT1.same s2, by omega, e3, fun H3 hR3 k3 => ?_⟩
    have k13 := (Same.kps s2 xs).trans k3
    have hr3 := hR.lst hr1 k13
    have hT3 := hR.tabs hT1 k13
    -- settled
    refine ⟨_, rfl, _, rfl, r, I, xs, rows, ord, rfl, hr3, hR3, hT3, by omega, hnd, e4, fun H4 o os s4 zo ho hos => ?_⟩
    have hR4 := hR3.same s4
    have k14 := k13.trans (Same.kps s4 xs)
    have hr4 := hR.lst hr1 k14
    have lord : ord.length ≤ 1000 := by
      have h1 := settled_len _ _ _ _ _ e4
      have h2 : (isRows rows).length ≤ rows.length := by
        unfold isRows
        exact Nat.le_trans (List.length_filter_le _ _) (by rw [List.length_zipIdx]; exact Nat.le_refl _)
      have e : ([] : List Nat).length = 0 := rfl
      omega
    refine ⟨r, o, I, xs, os, rows, ord, rows.length + 1, P0, rfl, hr4, ho, hR4, hos, by omega, lord, fun R mR => (hR4.labs R mR).1, hKey, e5, fun H5 x dx wd hR5 k5 hx hwd zx zwd st5 ew => ?_⟩
    have k15 := k14.trans k5
    have hr5 := hR.lst hr1 k15
    -- room
    refine ⟨_, rfl, r, I, xs, P0.rows, rfl, hr5, hR5, e6, ?_⟩
    have nH : ∀ {q : Addr}, H4 q = none → H q = none := fun {q} z => by
      cases e : H q with
      | none => rfl
      | some ob =>
        have nx : q ∉ xs := fun y => by
          rw [fx q y] at e
          cases e
        have := k14 _ _ (s1 _ _ e) nx
        rw [z] at this
        cases this
    have hKey5 := hKey.stat st5
    have ln5 : P0.rows.length = rows.length := stat_len st5
    obtain ⟨rows', p1, p2⟩ := settle_placed _ _ _ e5
    have hroom := e6
    rw [p1] at hroom
    obtain ⟨q1, q2, q3⟩ := room_ok rows' 0 (Int.le_refl _) (by decide) hroom
    rw [← p1, ← p2] at q1
    rw [← p2] at q2 q3
    have hall := mapE_al e7
    -- words
    have hx0 : x ∉ xs := fun y => by
      obtain ⟨R, _, d2, _, _, _, e, _⟩ := hR4.at_.mem y
      rw [zx] at e
      cases e
    refine ⟨_, rfl, r, rfl, ⟨_, SqL.of hr5⟩, for_it (walk_list (K := K) (a := r) (xs := xs.map V.ref)) (fun i σ H' => ∃ (I' : Hp) (y3 : Option V), σ = [some (.str text), some (.ref r), some (.ref x), y3] ∧ RowsAt C I' H' xs (rs.take i ++ P0.rows.drop i) ∧ KpS xs H5 H') ⟨I, _, rfl, by rw [List.take_zero]; exact hR5, KpS.refl _ _⟩ (fun i σ H' _ ⟨_, _, _, _, z⟩ => SqL.of (hR5.lst hr5 z)) ?_ ?_⟩
    · rintro i v σ H6 H7 hi ⟨I', y3, rfl, h7, k7⟩ ⟨rfl, hv⟩
      obtain ⟨a, ea, rfl⟩ := map_at hv
      obtain ⟨R, eR, _⟩ := hR5.at_.get ea
      obtain ⟨R', eR', hw⟩ := hall.get eR
      obtain ⟨ws, hws, rfl⟩ := wordsR_ok hw
      have lt : (rs.take i).length = i := by
        rw [List.length_take]
        have := (List.getElem?_eq_some_iff.mp eR').1
        omega
      rw [drop_cons eR] at h7
      have mR := List.mem_of_getElem? eR
      obtain ⟨z1, z2, z3⟩ := q1 R mR
      have hd7 := k7 _ _ hwd (hR5.notIn hwd (fun _ _ z => by cases z))
      have hx7 := k7 _ _ hx hx0
      refine ⟨_, rfl, _, rfl, x, CP, dx, _, _, rfl, hx7, MP.cl, MP.worths, rfl, a, wd, R, P0.worths, ws, rfl, h7.now ea (get_mid lt), hd7, fun L mL => ?_, hws, fun o => ?_, fun H8 t s8 ht => ?_⟩
      · rw [ew]
        exact hKey5.known mR mL
      · have : sizeM R = R.amount := by
          unfold sizeM
          rw [if_neg (by unfold wordless; rw [o]; decide), if_pos o]
        omega
      · have h8 := (h7.same s8).cutd
        have k8 := k7.trans (Same.kps s8 xs)
        obtain ⟨dx2, b, sa, t0, hx8, hix, hm8⟩ := h8.at_.2 i a R ea (get_mid lt)
        have nt : t ∉ xs := h8.notIn ht (fun _ _ z => by cases z)
        have hm' : RowIm (cut (fun q => q ∈ xs) H8) b sa t { R with words := ws } := ⟨hm8.b, hm8.s, cut_at ht nt, hm8.sg, hm8.wf, hm8.few, hm8.lab, hm8.gv⟩
        have h9 := h8.set (dx := dx2) ea hm'
        rw [set_mid lt] at h9
        refine ⟨_, rfl, a, C, dx2, rfm R b sa t0, rfl, hx8, MR.cl, MR.words, (by show 10 < 1000; decide), ?_⟩
        refine ⟨cut (fun q => q ∈ xs) H8, _, rfl, ?_, k8.at (List.mem_of_getElem? ea)⟩
        rw [take_snoc eR']
        exact h9
    · rintro σ H6 ⟨I', y3, rfl, h7, k7⟩
      have l1 : (xs.map V.ref).length = P0.rows.length := by rw [List.length_map, hR5.at_.1]
      rw [l1, List.drop_length, List.append_nil, hall.1, List.take_length] at h7
      refine ⟨_, rfl, k H6 I' x dx r wd xs (fun q ob e => ?_) (k7 _ _ hx hx0) (hR5.lst hr5 k7) h7 (k7 _ _ hwd (hR5.notIn hwd (fun _ _ z => by cases z))) ?_ (fun R' mR' => ?_) ?_ q3 (nH zx) zr (nH zwd)⟩
      · have nx : q ∉ xs := fun y => by
          rw [fx q y] at e
          cases e
        exact k7 _ _ (k15 _ _ (s1 _ _ e) nx) nx
      · show rs.length ≤ 400
        rw [← hall.1]
        omega
      · obtain ⟨i, hi, rfl⟩ := List.mem_iff_getElem.mp mR'
        obtain ⟨R, eR, hw⟩ := hall.get' (List.getElem?_eq_getElem hi)
        obtain ⟨ws, hws, eq⟩ := wordsR_ok hw
        have mR := List.mem_of_getElem? eR
        obtain ⟨z1, z2, z3⟩ := q1 R mR
        obtain ⟨a, ea, d1, d2, d3, d4, _, _, hm5⟩ := hR5.at_.get' eR
        have hlen := words_len hm5.wf z2 hws
        rw [eq]
        exact ⟨z1, by show R.place + (ws.length : Int) ≤ P0.stop; omega⟩
      · show 0 ≤ P0.stop
        omega
end
end Rs
/-! writing.py: written, listed -/
namespace Rs
open PySem PySem.Spec PyProof.Rows L2 C8
theorem layM_len {ws : List Int} {R : Rm} (h0 : 0 ≤ R.place) (h : R.place + R.words.length ≤ ws.length) : (layM ws R).length = ws.length := by
  unfold layM
  rw [List.length_append, List.length_append, List.length_take, List.length_drop]
  omega
section
variable {P : Program} {w : World} {K : PySem.W.Frag} {mg : Str → Option Value} {base : Heap} {C CP : Addr}
def spWritten (K : PySem.W.Frag) : Sp := fun vs H Q _ => ∃ (text : Str) (pg : Pg), vs = [.str text] ∧ TextOk text ∧ PlainL (linesOf text) ∧ Tabs K H ∧ pageM text = .ok pg ∧
  ∀ (H' : Hp) (p : Addr), Same H H' → H p = none → H' p = some (.lst ((writtenP pg).map V.int)) → ((writtenP pg).length : Int) = pg.stop → pg.stop ≤ 256 → Q (.ref p) H'
theorem ok_written (D : DefAt K mg "written" sD_written) (T : Txt w K mg) (MR : TxtR K C) (MP : TxtP K CP) (c_page_of : Cal P w K mg base 12 "page_of" (spPage K C CP) []) : Cal P w K mg base 13 "written" (spWritten K) [] := by
  refine cal_of D sc_written (fun _ _ _ _ _ _ us hl => match us, hl with | [_], _ => rfl) (fun vs H Q E h => ?_) (fun cdv Ar outer s H vs Q E hr h => ?_)
  · obtain ⟨text, pg, rfl, _⟩ := h
    rfl
  · obtain ⟨text, pg, rfl, hK, hP, hT, hm, k⟩ := h
    refine ⟨_, (pss_cons (ps_set (i := 1) sc_written.nd rfl (Or.inl rfl) (pe_c c_page_of hr (by decide) (by rfl) (pa_cons (pv 0) pa_nil)))
  (pss_cons (ps_set (i := 2) sc_written.nd rfl (Or.inl rfl) (pe_op op_rep (pe_lst (pa_cons pe_int pa_nil)) (pe_fld (pv 1) rfl)))
  (pss_cons (ps_for PassesOwn.never rfl (pi_list (pe_fld (pv 1) rfl)) (pg_name (i := 3) sc_written.nd rfl (Or.inl rfl))
   (pss_one (ps_asg (pe_callTy call_list_of (by rfl) T.free_list (by decide +kernel) (pa_cons (pe_fld (pv 3) rfl) pa_nil)) (Rg.pg_slice (pv 2) (pe_fld (pv 3) rfl) (pe_op op_add (pe_fld (pv 3) rfl) (pe_callB call_len_seq (by rfl) T.free_len (by decide +kernel) (pa_cons (pe_fld (pv 3) rfl) pa_nil)))))))
  (pss_one (ps_ret (pv 2)))))), ?_⟩
    refine ⟨_, rfl, text, pg, rfl, hK, hP, hT, hm, fun H1 I x dx r d xs s1 hx hr1 hR hd few pl st0 st1 zx zr zd => ?_⟩
    refine ⟨(by show 1 ≤ sizeLine; decide), fun q hq => ⟨_, rfl, x, CP, dx, _, _, rfl, (upd_ne (ne_of_none hx hq)).trans hx, MP.cl, MP.end, rfl, q, pg.stop, _, rfl, rfl, upd_same, by omega, by omega, ?_, fun p hp => ?_⟩⟩
    · show 1 * pg.stop.toNat ≤ sizeLine
      exact Nat.le_trans (show 1 * pg.stop.toNat ≤ 256 by omega) (by decide)
    have s2 : Same H1 (upd H1 q (.lst [.int 0])) := Same.new hq
    have zp : H1 p = none := s2.free hp
    rw [flat_rep]
    have s3 : Same H1 (upd (upd H1 q (.lst [.int 0])) p (.lst ((List.replicate pg.stop.toNat (0 : Int)).map V.int))) := s2.add hp
    have p3 : upd (upd H1 q (.lst [.int 0])) p (.lst ((List.replicate pg.stop.toNat (0 : Int)).map V.int)) p = some (.lst ((List.replicate pg.stop.toNat (0 : Int)).map V.int)) := upd_same
    generalize upd (upd H1 q (.lst [.int 0])) p (.lst ((List.replicate pg.stop.toNat (0 : Int)).map V.int)) = H3 at s3 p3 ⊢
    unfold writtenP at k
    refine ⟨_, rfl, x, CP, dx, _, _, rfl, s3 _ _ hx, MP.cl, MP.rows, rfl, r, rfl, ⟨_, SqL.of (s3 _ _ hr1)⟩, for_it (walk_list (K := K) (a := r) (xs := xs.map V.ref)) (fun i σ H' => ∃ (ws : List Int) (y3 : Option V), σ = [some (.str text), some (.ref x), some (.ref p), y3] ∧ Same H1 H' ∧ H' p = some (.lst (ws.map V.int)) ∧ (ws.length : Int) = pg.stop ∧ (pg.rows.drop i).foldl layM ws = pg.rows.foldl layM (List.replicate pg.stop.toNat 0)) ⟨_, _, rfl, s3, p3, by rw [List.length_replicate]; omega, rfl⟩ (fun i σ H' _ ⟨_, _, _, z, _⟩ => SqL.of (z _ _ hr1)) ?_ ?_⟩
    · rintro i v σ H4 H5 hi ⟨ws, y3, rfl, s5, p5, l5, e5⟩ ⟨rfl, hv⟩
      obtain ⟨a, ea, rfl⟩ := map_at hv
      obtain ⟨R, dx2, b, sa, t, eR, hx2, hm2⟩ := hR.get ea
      rw [drop_cons eR, List.foldl_cons] at e5
      obtain ⟨z1, z2⟩ := pl R (List.mem_of_getElem? eR)
      have x5 := s5 _ _ hx2
      have t5 := s5 _ _ (hR.sub _ _ hm2.t)
      refine ⟨_, rfl, a, C, dx2, rfm R b sa t, _, rfl, x5, MR.cl, MR.words, rfl, t, _, rfl, .inr (SqT.of t5), fun l hl => ?_⟩
      have npl : p ≠ l := ne_of_none p5 hl
      have nal : a ≠ l := ne_of_none x5 hl
      have ntl : t ≠ l := ne_of_none t5 hl
      refine ⟨_, rfl, _, rfl, a, C, dx2, rfm R b sa t, _, rfl, (upd_ne nal).trans x5, MR.cl, MR.place, rfl, _, rfl, a, C, dx2, rfm R b sa t, _, rfl, (upd_ne nal).trans x5, MR.cl, MR.place, rfl, _, rfl, a, C, dx2, rfm R b sa t, _, rfl, (upd_ne nal).trans x5, MR.cl, MR.words, rfl, t, _, rfl, .inr (SqT.of ((upd_ne ntl).trans t5)), _, _, rfl, rfl, ?_⟩
      refine ⟨p, l, _, _, R.place, R.place + ((R.words.map V.int).length : Int), rfl, rfl, rfl, rfl, (upd_ne npl).trans p5, upd_same, npl, z1, by omega, ?_, ?_, ?_⟩
      · rw [List.length_map, List.length_map]
        omega
      · rw [List.length_map, List.length_map]
        exact Nat.le_trans (show ws.length + R.words.length ≤ 1000 by omega) (by decide)
      · have e6 : (ws.map V.int).take R.place.toNat ++ R.words.map V.int ++ (ws.map V.int).drop (R.place + ((R.words.map V.int).length : Int)).toNat = (layM ws R).map V.int := by
          unfold layM
          rw [List.length_map, show (R.place + (R.words.length : Int)).toNat = R.place.toNat + R.words.length by omega, List.map_append, List.map_append, List.map_take, List.map_drop]
        rw [e6]
        exact ⟨layM ws R, _, rfl, (s5.add hl).putNew zp, upd_same, by rw [layM_len z1 (by omega)]; exact l5, e5⟩
    · rintro σ H4 ⟨ws, y3, rfl, s5, p5, l5, e5⟩
      rw [List.length_map, hR.at_.1, List.drop_length] at e5
      have e6 : ws = pg.rows.foldl layM (List.replicate pg.stop.toNat 0) := e5
      rw [← e6] at k
      exact ⟨_, rfl, k H4 p (s1.trans s5) (s1.free zp) p5 l5 st1⟩
/-- (row, place, words) -/
def LstAt (H : Hp) (t : Addr) (e : Int × Int × List Int) : Prop := ∃ u : Addr, H t = some (.tup [.int e.1, .int e.2.1, .ref u]) ∧ H u = some (.tup (e.2.2.map V.int))
theorem LstAt.same {H H' : Hp} {t : Addr} {e : Int × Int × List Int} (h : LstAt H t e) (k : ∀ q xs, H q = some (.tup xs) → H' q = some (.tup xs)) : LstAt H' t e := by
  obtain ⟨u, a, b⟩ := h
  exact ⟨u, k _ _ a, k _ _ b⟩
def spListed (K : PySem.W.Frag) : Sp := fun vs H Q _ => ∃ (text : Str) (pg : Pg), vs = [.str text] ∧ TextOk text ∧ PlainL (linesOf text) ∧ Tabs K H ∧ pageM text = .ok pg ∧
  ∀ (H' : Hp) (p : Addr) (ts : List Addr), Same H H' → H p = none → H' p = some (.lst (ts.map V.ref)) → Al (LstAt H') ts (listedP pg) → (listedP pg).length ≤ 400 → Q (.ref p) H'
theorem ok_listed (D : DefAt K mg "listed" sD_listed) (T : Txt w K mg) (MR : TxtR K C) (MP : TxtP K CP) (c_page_of : Cal P w K mg base 12 "page_of" (spPage K C CP) []) : Cal P w K mg base 13 "listed" (spListed K) [] := by
  refine cal_of D sc_listed (fun _ _ _ _ _ _ us hl => match us, hl with | [_], _ => rfl) (fun vs H Q E h => ?_) (fun cdv Ar outer s H vs Q E hr h => ?_)
  · obtain ⟨text, pg, rfl, _⟩ := h
    rfl
  · obtain ⟨text, pg, rfl, hK, hP, hT, hm, k⟩ := h
    refine ⟨_, (pss_one (ps_ret (pe_lc (own := [("row", 1)]) (g := gName 1) (by rfl) sc_listed.nd (pi_list (pe_fld (pe_c c_page_of hr (by decide) (by rfl) (pa_cons (pv 0) pa_nil)) rfl)) (blkOk_by (own := [("row", 1)]) (N := N_listed) (sc := defScope sD_listed) (by decide +kernel)) (fun _ _ _ _ _ => (pg_name (i := 1) sc_listed.nd rfl (Or.inl rfl))) (fun _ _ _ _ _ => (pts_one (pt_truthK K rfl (Rg.pe_fldK K rfl (pv 1) rfl) (by intro _; rfl)))) (fun _ _ _ _ _ => (pe_tup (pa_cons (Rg.pe_fldK K rfl (pv 1) rfl) (pa_cons (Rg.pe_fldK K rfl (pv 1) rfl) (pa_cons (Rg.pe_fldK K rfl (pv 1) rfl) pa_nil)))))))), ?_⟩
    refine ⟨_, rfl, text, pg, rfl, hK, hP, hT, hm, fun H1 I x dx r d xs s1 hx hr1 hR hd few pl st0 st1 zx zr zd => ?_⟩
    refine ⟨x, CP, dx, _, _, rfl, hx, MP.cl, MP.rows, rfl, r, rfl, ⟨_, SqL.of hr1⟩, fun Dl hD => ?_⟩
    have lf : (listedP pg).length ≤ 400 := by
      unfold listedP
      rw [List.length_map]
      exact Nat.le_trans (List.length_filter_le _ _) few
    unfold listedP at k lf
    refine lc_list (K := K) (a := r) (xs := xs.map V.ref) (fun i H' => Same H1 H' ∧ ∃ ts : List Addr, H' Dl = some (.lst (ts.map V.ref)) ∧ ts.length ≤ i ∧ Al (LstAt H') ts (((pg.rows.take i).filter fun R : Rm => decide (R.words ≠ [])).map fun R : Rm => (R.row, R.place, R.words))) ⟨Same.new hD, [], upd_same, Nat.zero_le _, Al.nil⟩ (fun i H' _ ⟨z, _⟩ => SqL.of (z _ _ hr1)) ?_ ?_
    · rintro i v H3 hv ⟨s3, ts, h3, l3, a3⟩
      obtain ⟨a, ea, rfl⟩ := map_at hv
      obtain ⟨R, dx2, b, sa, t, eR, hx2, hm2⟩ := hR.get ea
      have x3 := s3 _ _ hx2
      have t3 := s3 _ _ (hR.sub _ _ hm2.t)
      have hi2 : i < 400 := by
        have := (List.getElem?_eq_some_iff.mp eR).1
        omega
      refine ⟨rfl, _, rfl, a, C, dx2, rfm R b sa t, _, rfl, x3, MR.cl, MR.words, rfl, !(R.words.map V.int).isEmpty, .inr (.inl ⟨_, SqT.of t3, rfl⟩), ?_⟩
      rw [take_snoc eR, List.filter_append, List.filter_cons, List.filter_nil, List.map_append]
      by_cases q : R.words = []
      · rw [q, if_neg (by simp)]
        refine iteF ⟨s3, ts, h3, Nat.le_succ_of_le l3, ?_⟩
        rw [List.map_nil, List.append_nil]
        exact a3
      · rw [show (!(R.words.map V.int).isEmpty) = true by
          cases e : R.words with
          | nil => exact absurd e q
          | cons _ _ => rfl, if_pos (decide_eq_true q)]
        refine iteT ⟨_, rfl, a, C, dx2, rfm R b sa t, _, rfl, x3, MR.cl, MR.row, rfl, _, rfl, a, C, dx2, rfm R b sa t, _, rfl, x3, MR.cl, MR.place, rfl, _, rfl, a, C, dx2, rfm R b sa t, _, rfl, x3, MR.cl, MR.words, rfl, (by show 3 ≤ sizeLine; decide), fun u hu => ?_⟩
        have nDu : Dl ≠ u := ne_of_none h3 hu
        refine ⟨_, (upd_ne nDu).trans h3, ?_, ?_, ts ++ [u], ?_, ?_, ?_⟩
        · rw [List.length_map]
          exact Nat.lt_of_le_of_lt (show ts.length ≤ 1000 by omega) (by decide)
        · exact (s3.add hu).putNew hD
        · rw [upd_same, List.map_append] <;> rfl
        · rw [List.length_append]
          exact Nat.succ_le_succ l3
        · have kt : ∀ (z : Addr) (ys : List V), upd H3 u (.tup [.int R.row, .int R.place, .ref t]) z = some (.tup ys) → upd (upd H3 u (.tup [.int R.row, .int R.place, .ref t])) Dl (.lst (ts.map V.ref ++ [V.ref u])) z = some (.tup ys) := fun z ys e => by
            rw [upd_ne (fun y => ?_)]
            · exact e
            · rw [y, upd_ne nDu, h3] at e
              cases e
          refine Al.snoc (a3.mono fun y e z => LstAt.same (LstAt.same z fun q ys e => (upd_ne (ne_of_none e hu)).trans e) kt) ⟨t, kt _ _ upd_same, kt _ _ ((upd_ne (ne_of_none t3 hu)).trans t3)⟩
    · rintro H3 ⟨s3, ts, h3, l3, a3⟩
      rw [List.length_map, hR.at_.1, List.take_length] at a3
      exact k H3 Dl ts (s1.trans s3) (s1.free hD) h3 a3 lf
end
end Rs
/-! What is come to, as a plain function; what a run does was come to. -/
namespace Rs
open PySem
def sgn (n : Int) : Int := if n < 128 then n else n - 256
def goals (r : Row) (p : Int) : List Int := match r.k with
  | .jump | .call | .zero | .same => [r.nm.getD 0 0]
  | .skip => [p + r.size + sgn (r.nm.getD 0 0)]
  | _ => []
def onward (r : Row) (p : Int) : List Int := match r.k with
  | .stop | .back | .jump | .skip => []
  | _ => [p + r.size]
def leads (r : Row) (p : Int) : List Int := goals r p ++ onward r p
abbrev Pt := Int × Int
structure TS where
  rows : List (Int × Row)
  wait : List Pt
  apart : List Pt
def lt2 (a b : Pt) : Bool := decide (a.1 < b.1 ∨ (a.1 = b.1 ∧ a.2 < b.2))
def minP : Pt → List Pt → Pt
  | m, [] => m
  | m, x :: r => minP (if lt2 x m = true then x else m) r
theorem minP_mem : ∀ (l : List Pt) (m : Pt), minP m l = m ∨ minP m l ∈ l
  | [], m => .inl rfl
  | x :: r, m => by
    unfold minP
    by_cases h : lt2 x m = true
    · rw [if_pos h]
      rcases minP_mem r x with q | q
      · rw [q]
        exact .inr List.mem_cons_self
      · exact .inr (List.mem_cons_of_mem _ q)
    · rw [if_neg h]
      rcases minP_mem r m with q | q
      · exact .inl q
      · exact .inr (List.mem_cons_of_mem _ q)
def insP (w : List Pt) (x : Pt) : List Pt := if x ∈ w then w else w ++ [x]
theorem mem_insP {w : List Pt} {x y : Pt} : y ∈ insP w x ↔ y ∈ w ∨ y = x := by
  unfold insP
  by_cases h : x ∈ w
  · rw [if_pos h]
    constructor
    · exact .inl
    · rintro (q | rfl)
      · exact q
      · exact h
  · rw [if_neg h]
    simp
def covers (rows : List (Int × Row)) (q : Int) : Bool := rows.any fun e => decide (e.1 ≤ q ∧ q < e.1 + e.2.size)
def hits (rows : List (Int × Row)) (p : Int) (n : Nat) : Bool := (List.range n).any fun k => covers rows (p + (k : Nat))
def isRow (rows : List (Int × Row)) (p : Int) : Bool := rows.any fun e => decide (e.1 = p)
/-- one that waits is looked at -/
def look (ws : List Int) (s : TS) (m : Pt) : TS :=
  if ¬ (0 ≤ m.1 ∧ m.1 < (ws.length : Int)) ∨ isRow s.rows m.1 = true then s
  else match rowAt ws m.1 with
    | none => if covers s.rows m.1 = true then { s with apart := insP s.apart (m.2, m.1) } else s
    | some r => if hits s.rows m.1 r.size = true then { s with apart := insP s.apart (m.2, m.1) }
      else { s with rows := s.rows ++ [(m.1, r)], wait := (leads r m.1).foldl (fun w q => insP w (q, m.1)) s.wait }
def tstep (ws : List Int) (s : TS) : TS := match s.wait with
  | [] => s
  | x :: r => look ws { s with wait := (x :: r).filter fun y => decide (y ≠ minP x r) } (minP x r)
/-! ### what holds between two looks -/
def RowsP (s : TS) (p : Int) : Prop := ∃ r, (p, r) ∈ s.rows
def Done (ws : List Int) (s : TS) (q f : Int) : Prop := rowAt ws q = none ∨ RowsP s q ∨ (f, q) ∈ s.apart
structure Tr (ws bs : List Int) (s : TS) : Prop where
  is : ∀ p r, (p, r) ∈ s.rows → rowAt ws p = some r
  led : ∀ p r, (p, r) ∈ s.rows → ∀ q ∈ leads r p, (q, p) ∈ s.wait ∨ Done ws s q p
  beg : ∀ b ∈ bs, (b, -1) ∈ s.wait ∨ Done ws s b (-1)
  src : ∀ q f, (q, f) ∈ s.wait → (f = -1 ∧ q ∈ bs) ∨ ∃ r, (f, r) ∈ s.rows ∧ q ∈ leads r f
  ord : ∀ (i : Nat) p r, s.rows[i]? = some (p, r) → p ∈ bs ∨ ∃ (j : Nat) (p' : Int) (r' : Row), j < i ∧ s.rows[j]? = some (p', r') ∧ p ∈ leads r' p'
theorem Done.mono {ws : List Int} {s t : TS} {q f : Int} (h : Done ws s q f) (h1 : ∀ e ∈ s.rows, e ∈ t.rows) (h2 : ∀ e ∈ s.apart, e ∈ t.apart) : Done ws t q f := by
  rcases h with h | ⟨r, h⟩ | h
  · exact .inl h
  · exact .inr (.inl ⟨r, h1 _ h⟩)
  · exact .inr (.inr (h2 _ h))
theorem isRow_iff {rows : List (Int × Row)} {p : Int} : isRow rows p = true ↔ ∃ r, (p, r) ∈ rows := by
  unfold isRow
  rw [List.any_eq_true]
  constructor
  · rintro ⟨⟨a, r⟩, h, e⟩
    have : a = p := of_decide_eq_true e
    subst this
    exact ⟨r, h⟩
  · rintro ⟨r, h⟩
    exact ⟨_, h, decide_eq_true rfl⟩
theorem rowAt_out {ws : List Int} {p : Int} (h : ¬ (0 ≤ p ∧ p < (ws.length : Int))) : rowAt ws p = none := by
  unfold rowAt
  rw [if_neg h]
theorem foldl_ins {l : List Int} {w : List Pt} {p : Int} {y : Pt} : y ∈ l.foldl (fun w q => insP w (q, p)) w ↔ y ∈ w ∨ ∃ q ∈ l, y = (q, p) := by
  induction l generalizing w with
  | nil => simp
  | cons a r ih =>
    rw [List.foldl_cons, ih, mem_insP]
    constructor
    · rintro ((h | h) | ⟨q, h1, h2⟩)
      · exact .inl h
      · exact .inr ⟨a, List.mem_cons_self, h⟩
      · exact .inr ⟨q, List.mem_cons_of_mem _ h1, h2⟩
    · rintro (h | ⟨q, h1, h2⟩)
      · exact .inl (.inl h)
      · rcases List.mem_cons.mp h1 with rfl | h1
        · exact .inl (.inr h2)
        · exact .inr ⟨q, h1, h2⟩
/-- the looked one is done, the rest as it was -/
theorem look_tr {ws bs : List Int} {s : TS} {m : Pt} (h : Tr ws bs { s with wait := m :: s.wait }) : Tr ws bs (look ws s m) := by
  obtain ⟨q, f⟩ := m
  -- all that wait, but the looked one, wait still or are done
  have base : ∀ t : TS, (∀ e ∈ s.rows, e ∈ t.rows) → (∀ e ∈ s.apart, e ∈ t.apart) → (∀ e ∈ s.wait, e ∈ t.wait) → Done ws t q f →
      (∀ p r, (p, r) ∈ s.rows → ∀ q' ∈ leads r p, (q', p) ∈ t.wait ∨ Done ws t q' p) ∧ ∀ b ∈ bs, (b, -1) ∈ t.wait ∨ Done ws t b (-1) := fun t h1 h2 h3 hd => by
    constructor
    · intro p r hp q' hq
      rcases h.led p r hp q' hq with z | z
      · rcases List.mem_cons.mp z with z | z
        · obtain ⟨z1, z2⟩ := Prod.mk.inj z
          subst z1 z2
          exact .inr hd
        · exact .inl (h3 _ z)
      · exact .inr (Done.mono z h1 h2)
    · intro b hb
      rcases h.beg b hb with z | z
      · rcases List.mem_cons.mp z with z | z
        · obtain ⟨z1, z2⟩ := Prod.mk.inj z
          subst z1 z2
          exact .inr hd
        · exact .inl (h3 _ z)
      · exact .inr (Done.mono z h1 h2)
  have ssrc : ∀ a b, (a, b) ∈ s.wait → (b = -1 ∧ a ∈ bs) ∨ ∃ r, (b, r) ∈ s.rows ∧ a ∈ leads r b := fun a b z => h.src a b (List.mem_cons_of_mem _ z)
  unfold look
  by_cases c1 : ¬ (0 ≤ q ∧ q < (ws.length : Int)) ∨ isRow s.rows q = true
  · rw [if_pos c1]
    have hd : Done ws s q f := by
      rcases c1 with c | c
      · exact .inl (rowAt_out c)
      · exact .inr (.inl (isRow_iff.mp c))
    obtain ⟨b1, b2⟩ := base s (fun _ z => z) (fun _ z => z) (fun _ z => z) hd
    exact ⟨h.is, b1, b2, ssrc, h.ord⟩
  · rw [if_neg c1]
    have apart : ∀ t : TS, t = { s with apart := insP s.apart (f, q) } → Tr ws bs t := fun t e => by
      subst e
      obtain ⟨b1, b2⟩ := base { s with apart := insP s.apart (f, q) } (fun _ z => z) (fun _ z => mem_insP.mpr (.inl z)) (fun _ z => z) (.inr (.inr (mem_insP.mpr (.inr rfl))))
      exact ⟨h.is, b1, b2, ssrc, h.ord⟩
    cases er : rowAt ws q with
    | none =>
      dsimp only
      by_cases c2 : covers s.rows q = true
      · rw [if_pos c2]
        exact apart _ rfl
      · rw [if_neg c2]
        obtain ⟨b1, b2⟩ := base s (fun _ z => z) (fun _ z => z) (fun _ z => z) (.inl er)
        exact ⟨h.is, b1, b2, ssrc, h.ord⟩
    | some r =>
      dsimp only
      by_cases c2 : hits s.rows q r.size = true
      · rw [if_pos c2]
        exact apart _ rfl
      · rw [if_neg c2]
        have hin : ∀ e ∈ s.rows, e ∈ s.rows ++ [(q, r)] := fun e z => List.mem_append_left _ z
        have hnew : (q, r) ∈ s.rows ++ [(q, r)] := List.mem_append_right _ (List.mem_singleton.mpr rfl)
        obtain ⟨b1, b2⟩ := base { s with rows := s.rows ++ [(q, r)], wait := (leads r q).foldl (fun w z => insP w (z, q)) s.wait } hin (fun _ z => z) (fun _ z => foldl_ins.mpr (.inl z)) (.inr (.inl ⟨r, hnew⟩))
        refine ⟨fun p r' hp => ?_, fun p r' hp q' hq => ?_, b2, fun a b hw => ?_, fun i p r' hi => ?_⟩
        · rcases List.mem_append.mp hp with z | z
          · exact h.is p r' z
          · obtain ⟨z1, z2⟩ := Prod.mk.inj (List.mem_singleton.mp z)
            subst z1 z2
            exact er
        · rcases List.mem_append.mp hp with z | z
          · exact b1 p r' z q' hq
          · obtain ⟨z1, z2⟩ := Prod.mk.inj (List.mem_singleton.mp z)
            subst z1 z2
            exact .inl (foldl_ins.mpr (.inr ⟨q', hq, rfl⟩))
        · rcases foldl_ins.mp hw with z | ⟨z, hz, e⟩
          · rcases ssrc a b z with z | ⟨r', z1, z2⟩
            · exact .inl z
            · exact .inr ⟨r', hin _ z1, z2⟩
          · obtain ⟨e1, e2⟩ := Prod.mk.inj e
            subst e1 e2
            exact .inr ⟨r, hnew, hz⟩
        · by_cases hl : i < s.rows.length
          · rw [List.getElem?_append_left hl] at hi
            rcases h.ord i p r' hi with z | ⟨j, p', r'', z1, z2, z3⟩
            · exact .inl z
            · exact .inr ⟨j, p', r'', z1, by rw [List.getElem?_append_left (by omega)]; exact z2, z3⟩
          · rw [List.getElem?_append_right (by omega)] at hi
            cases e : i - s.rows.length with
            | succ k =>
              rw [e] at hi
              cases hi
            | zero =>
              rw [e] at hi
              cases hi
              rcases h.src q f List.mem_cons_self with ⟨_, z⟩ | ⟨r', z1, z2⟩
              · exact .inl z
              · obtain ⟨j, hj, ej⟩ := List.mem_iff_getElem.mp z1
                have hj' : j < s.rows.length := hj
                exact .inr ⟨j, f, r', by omega, by rw [List.getElem?_append_left hj, List.getElem?_eq_getElem hj, ej], z2⟩
theorem tstep_tr {ws bs : List Int} {s : TS} (h : Tr ws bs s) : Tr ws bs (tstep ws s) := by
  unfold tstep
  cases hw : s.wait with
  | nil => exact h
  | cons x r =>
    dsimp only
    have hm : minP x r ∈ x :: r := by
      rcases minP_mem r x with q | q
      · rw [q]
        exact List.mem_cons_self
      · exact List.mem_cons_of_mem _ q
    generalize minP x r = m at hm
    refine look_tr (s := { s with wait := (x :: r).filter fun y => decide (y ≠ m) }) ?_
    have to : ∀ y, y ∈ s.wait → y ∈ m :: (x :: r).filter fun y => decide (y ≠ m) := fun y hy => by
      by_cases e : y = m
      · rw [e]
        exact List.mem_cons_self
      · refine List.mem_cons_of_mem _ (List.mem_filter.mpr ⟨?_, decide_eq_true e⟩)
        rw [← hw]
        exact hy
    refine ⟨h.is, fun p r' hp q hq => ?_, fun b hb => ?_, fun q f hq => ?_, h.ord⟩
    · rcases h.led p r' hp q hq with z | z
      · exact .inl (to _ z)
      · exact .inr z
    · rcases h.beg b hb with z | z
      · exact .inl (to _ z)
      · exact .inr z
    · refine h.src q f ?_
      rw [hw]
      rcases List.mem_cons.mp hq with z | z
      · rw [z]
        exact hm
      · exact (List.mem_filter.mp z).1
/-! ### what a run does was come to -/
/-- of the first place that isn't in rows: it is apart -/
def Lost (R A : Int → Prop) (l : List Int) : Prop := ∀ (i : Nat) (p : Int), l[i]? = some p → (∀ (j : Nat) (q : Int), j < i → l[j]? = some q → R q) → R p ∨ A p
structure Cl (ws : List Int) (R A : Int → Prop) : Prop where
  led : ∀ p r, R p → rowAt ws p = some r → ∀ q ∈ leads r p, rowAt ws q ≠ none → R q ∨ A q
structure Jr (ws : List Int) (R A : Int → Prop) (m : M) : Prop where
  lost : Lost R A m.past
  next : (∀ p ∈ m.past, R p) → m.why = "" → rowAt ws m.place ≠ none → R m.place ∨ A m.place
  calls : (∀ p ∈ m.past, R p) → ∀ c ∈ m.calls, rowAt ws c ≠ none → R c ∨ A c
theorem Lost.snoc {R A : Int → Prop} {l : List Int} {p : Int} (h : Lost R A l) (hp : (∀ q ∈ l, R q) → R p ∨ A p) : Lost R A (l ++ [p]) := fun i q hi hb => by
  by_cases hl : i < l.length
  · rw [List.getElem?_append_left hl] at hi
    refine h i q hi fun j z hj hz => hb j z hj ?_
    rw [List.getElem?_append_left (by omega)]
    exact hz
  · rw [List.getElem?_append_right (by omega)] at hi
    cases e : i - l.length with
    | succ k =>
      rw [e] at hi
      cases hi
    | zero =>
      rw [e] at hi
      cases hi
      refine hp fun z hz => ?_
      obtain ⟨j, hj, ej⟩ := List.mem_iff_getElem.mp hz
      exact hb j z (by omega) (by rw [List.getElem?_append_left hj, List.getElem?_eq_getElem hj, ej])
theorem getLastD_mem {l : List Int} (h : l ≠ []) : l.getLastD 0 ∈ l := by
  cases l with
  | nil => exact absurd rfl h
  | cons a r => exact List.getLast_mem (List.cons_ne_nil a r)
/-- where a row goes on: a place that it leads to, or one that a call has kept -/
theorem doK_next {ws : List Int} {R A : Int → Prop} {p : Int} {r : Row} {m : M} (cl : Cl ws R A) (hp : R p) (er : rowAt ws p = some r) (hw : m.why = "") (hpl : m.place = p + r.size)
    (hc : ∀ c ∈ m.calls, rowAt ws c ≠ none → R c ∨ A c) :
    ((doK r.k r.bx r.nm m).why = "" → rowAt ws (doK r.k r.bx r.nm m).place ≠ none → R (doK r.k r.bx r.nm m).place ∨ A (doK r.k r.bx r.nm m).place) ∧
    ∀ c ∈ (doK r.k r.bx r.nm m).calls, rowAt ws c ≠ none → R c ∨ A c := by
  have led := cl.led p r hp er
  obtain ⟨k, bx, nm, sz⟩ := r
  dsimp only at hpl
  have on : onward ⟨k, bx, nm, sz⟩ p = [p + sz] → rowAt ws m.place ≠ none → R m.place ∨ A m.place := fun e z => by
    rw [hpl] at z ⊢
    exact led _ (List.mem_append_right _ (by rw [e]; exact List.mem_singleton.mpr rfl)) z
  have go : goals ⟨k, bx, nm, sz⟩ p = [nm.getD 0 0] → rowAt ws (nm.getD 0 0) ≠ none → R (nm.getD 0 0) ∨ A (nm.getD 0 0) := fun e z =>
    led _ (List.mem_append_left _ (by rw [e]; exact List.mem_singleton.mpr rfl)) z
  cases k
  case stop => exact ⟨fun q => absurd q ne_stop, hc⟩
  case back =>
    by_cases h : m.calls = []
    · have e : doK .back bx nm m = { m with why := "back" } := if_pos h
      dsimp only
      rw [e]
      exact ⟨fun q => absurd q ne_back, hc⟩
    · have e : doK .back bx nm m = { m with place := m.calls.getLastD 0, calls := m.calls.dropLast } := if_neg h
      dsimp only
      rw [e]
      exact ⟨fun _ => hc _ (getLastD_mem h), fun c z => hc c ((List.dropLast_sublist _).subset z)⟩
  case jump => exact ⟨fun _ => go rfl, hc⟩
  case call =>
    by_cases h : m.calls.length = 16
    · have e : doK .call bx nm m = { m with why := "deep" } := if_pos h
      dsimp only
      rw [e]
      exact ⟨fun q => absurd q ne_deep, hc⟩
    · have e : doK .call bx nm m = { m with calls := m.calls ++ [m.place], place := nm.getD 0 0 } := if_neg h
      dsimp only
      rw [e]
      refine ⟨fun _ => go rfl, fun c z => ?_⟩
      rcases List.mem_append.mp z with z | z
      · exact hc c z
      · rw [List.mem_singleton.mp z]
        exact on rfl
  case skip =>
    refine ⟨fun _ z => ?_, hc⟩
    have e : (doK .skip bx nm m).place = p + sz + sgn (nm.getD 0 0) := by
      show m.place + (if nm.getD 0 0 < 128 then nm.getD 0 0 else nm.getD 0 0 - 256) = _
      rw [hpl]
      rfl
    dsimp only at z ⊢
    rw [e] at z ⊢
    exact led _ (List.mem_append_left _ (List.mem_singleton.mpr rfl)) z
  case zero =>
    by_cases h : m.boxes.getD (bx.getD 0 0).toNat 0 = 0
    · have e : doK .zero bx nm m = { m with place := nm.getD 0 0 } := if_pos h
      dsimp only
      rw [e]
      exact ⟨fun _ => go rfl, hc⟩
    · have e : doK .zero bx nm m = m := if_neg h
      dsimp only
      rw [e]
      exact ⟨fun _ => on rfl, hc⟩
  case same =>
    by_cases h : m.boxes.getD (bx.getD 0 0).toNat 0 = m.boxes.getD (bx.getD 1 0).toNat 0
    · have e : doK .same bx nm m = { m with place := nm.getD 0 0 } := if_pos h
      dsimp only
      rw [e]
      exact ⟨fun _ => go rfl, hc⟩
    · have e : doK .same bx nm m = m := if_neg h
      dsimp only
      rw [e]
      exact ⟨fun _ => on rfl, hc⟩
  all_goals exact ⟨fun _ => on rfl, hc⟩
theorem step_jr {ws : List Int} {R A : Int → Prop} {m : M} (cl : Cl ws R A) (h : Jr ws R A m) (hw : m.why = "") : Jr ws R A (step ws m) := by
  cases er : rowAt ws m.place with
  | none =>
    rw [step_none er]
    refine ⟨h.lost, fun _ q => ?_, h.calls⟩
    dsimp only at q
    exfalso
    revert q
    split
    · exact ne_none
    · exact ne_end
  | some r =>
    rw [step_some er]
    have np : rowAt ws m.place ≠ none := by
      rw [er]
      exact fun z => by cases z
    have pe := doK_past r.k r.bx r.nm { m with past := m.past ++ [m.place], place := m.place + r.size }
    refine ⟨?_, fun hall => ?_, fun hall => ?_⟩
    · rw [pe]
      exact h.lost.snoc fun z => h.next z hw np
    · rw [pe] at hall
      have h1 : ∀ p ∈ m.past, R p := fun p z => hall p (List.mem_append_left _ z)
      exact (doK_next (m := { m with past := m.past ++ [m.place], place := m.place + r.size }) cl (hall m.place (List.mem_append_right _ (List.mem_singleton.mpr rfl))) er hw rfl (h.calls h1)).1
    · rw [pe] at hall
      have h1 : ∀ p ∈ m.past, R p := fun p z => hall p (List.mem_append_left _ z)
      exact (doK_next (m := { m with past := m.past ++ [m.place], place := m.place + r.size }) cl (hall m.place (List.mem_append_right _ (List.mem_singleton.mpr rfl))) er hw rfl (h.calls h1)).2
theorem run_lost {ws : List Int} {R A : Int → Prop} {most : Nat} {be : Int} (cl : Cl ws R A) (hb : rowAt ws be ≠ none → R be ∨ A be) : Lost R A (runW ws most (init ws be)).past := by
  have key : ∀ (n : Nat) (m : M), mu most m ≤ n → Jr ws R A m → Jr ws R A (runW ws most m) := by
    intro n
    induction n with
    | zero =>
      intro m hn h
      by_cases hc : m.why = "" ∧ m.past.length < most
      · exfalso
        unfold mu at hn
        rw [if_pos hc.1] at hn
        omega
      · rw [runW_end hc]
        exact h
    | succ n ih =>
      intro m hn h
      by_cases hc : m.why = "" ∧ m.past.length < most
      · rw [runW_go hc.1 hc.2]
        have := mu_step (ws := ws) hc.1 hc.2
        exact ih _ (by omega) (step_jr cl h hc.1)
      · rw [runW_end hc]
        exact h
  exact (key _ (init ws be) (Nat.le_refl _) ⟨fun i p hi => (by cases hi), fun _ _ => hb, fun _ c hc => (by cases hc)⟩).lost
/-! ### the whole following -/
def traceN (ws : List Int) : Nat → TS → TS
  | 0, s => s
  | n + 1, s => traceN ws n (tstep ws s)
def begin0 (bs : List Int) : TS := ⟨[], bs.foldl (fun w b => insP w (b, -1)) [], []⟩
theorem begin0_mem {bs : List Int} {y : Pt} : y ∈ (begin0 bs).wait ↔ ∃ b ∈ bs, y = (b, -1) := by
  have h : ∀ (l : List Int) (w : List Pt), y ∈ l.foldl (fun w b => insP w (b, -1)) w ↔ y ∈ w ∨ ∃ b ∈ l, y = (b, -1) := by
    intro l
    induction l with
    | nil => simp
    | cons a r ih =>
      intro w
      rw [List.foldl_cons, ih, mem_insP]
      constructor
      · rintro ((h | h) | ⟨q, h1, h2⟩)
        · exact .inl h
        · exact .inr ⟨a, List.mem_cons_self, h⟩
        · exact .inr ⟨q, List.mem_cons_of_mem _ h1, h2⟩
      · rintro (h | ⟨q, h1, h2⟩)
        · exact .inl (.inl h)
        · rcases List.mem_cons.mp h1 with rfl | h1
          · exact .inl (.inr h2)
          · exact .inr ⟨q, h1, h2⟩
  have := h bs []
  simpa [begin0] using this
theorem begin0_tr (ws bs : List Int) : Tr ws bs (begin0 bs) := by
  refine ⟨fun p r h => (by cases h), fun p r h => (by cases h), fun b hb => .inl (begin0_mem.mpr ⟨b, hb, rfl⟩), fun q f h => ?_, fun i p r h => (by cases h)⟩
  obtain ⟨b, hb, e⟩ := begin0_mem.mp h
  obtain ⟨e1, e2⟩ := Prod.mk.inj e
  subst e1 e2
  exact .inl ⟨rfl, hb⟩
theorem traceN_tr {ws bs : List Int} : ∀ {n : Nat} {s : TS}, Tr ws bs s → Tr ws bs (traceN ws n s)
  | 0, _, h => h
  | n + 1, s, h => traceN_tr (n := n) (s := tstep ws s) (tstep_tr h)
theorem leads_len (r : Row) (p : Int) : (leads r p).length ≤ 2 := by
  unfold leads goals onward
  cases r.k <;> simp
theorem insP_len (w : List Pt) (x : Pt) : (insP w x).length ≤ w.length + 1 := by
  unfold insP
  split <;> simp
theorem foldl_len {p : Int} : ∀ (l : List Int) (w : List Pt), (l.foldl (fun w q => insP w (q, p)) w).length ≤ w.length + l.length
  | [], w => by simp
  | a :: r, w => by
    rw [List.foldl_cons]
    have h1 := foldl_len (p := p) r (insP w (a, p))
    have h2 := insP_len w (a, p)
    simp only [List.length_cons]
    omega
/-- rows lie apart within the words -/
structure Fit (ws : List Int) (s : TS) : Prop where
  nd : (s.rows.map (·.1)).Nodup
  lo : ∀ e ∈ s.rows, 0 ≤ e.1 ∧ e.1 < (ws.length : Int)
theorem nodup_le : ∀ {n : Nat} {l : List Int}, l.Nodup → (∀ x ∈ l, 0 ≤ x ∧ x < (n : Int)) → l.length ≤ n
  | 0, [], _, _ => Nat.le_refl _
  | 0, a :: r, _, h => by
    have := h a List.mem_cons_self
    omega
  | n + 1, l, hn, h => by
    have h1 : ((l.filter fun x => decide (x ≠ (n : Int)))).length ≤ n := by
      refine nodup_le (hn.filter _) fun x hx => ?_
      obtain ⟨h2, h3⟩ := List.mem_filter.mp hx
      have h4 := h x h2
      have h5 : x ≠ (n : Int) := of_decide_eq_true h3
      omega
    have h2 : l.length ≤ (l.filter fun x => decide (x ≠ (n : Int))).length + 1 := by
      clear h h1
      induction l with
      | nil => simp
      | cons a r ih =>
        obtain ⟨ha, hr⟩ := List.nodup_cons.mp hn
        by_cases e : a = (n : Int)
        · have e2 : r.filter (fun x => decide (x ≠ (n : Int))) = r := List.filter_eq_self.mpr fun x hx => decide_eq_true fun z => ha (by rw [e, ← z]; exact hx)
          rw [List.filter_cons_of_neg (by simp [e]), e2]
          simp
        · rw [List.filter_cons_of_pos (by simp [e])]
          have := ih hr
          simp only [List.length_cons]
          omega
    omega
def tmu (ws : List Int) (s : TS) : Nat := 2 * (ws.length - s.rows.length) + s.wait.length
theorem look_fit {ws : List Int} {s : TS} {m : Pt} (h : Fit ws s) : Fit ws (look ws s m) ∧ tmu ws (look ws s m) ≤ tmu ws s := by
  unfold look
  by_cases c1 : ¬ (0 ≤ m.1 ∧ m.1 < (ws.length : Int)) ∨ isRow s.rows m.1 = true
  · rw [if_pos c1]
    exact ⟨h, Nat.le_refl _⟩
  · rw [if_neg c1]
    cases er : rowAt ws m.1 with
    | none =>
      dsimp only
      split
      · exact ⟨⟨h.nd, h.lo⟩, Nat.le_refl _⟩
      · exact ⟨h, Nat.le_refl _⟩
    | some r =>
      dsimp only
      split
      · exact ⟨⟨h.nd, h.lo⟩, Nat.le_refl _⟩
      · have c2 : (0 ≤ m.1 ∧ m.1 < (ws.length : Int)) ∧ ¬ isRow s.rows m.1 = true := by
          constructor
          · exact Classical.byContradiction fun z => c1 (.inl z)
          · exact fun z => c1 (.inr z)
        have f2 : Fit ws { s with rows := s.rows ++ [(m.1, r)], wait := (leads r m.1).foldl (fun w q => insP w (q, m.1)) s.wait } := by
          refine ⟨?_, fun e he => ?_⟩
          · dsimp only
            rw [List.map_append, List.nodup_append]
            refine ⟨h.nd, by simp, fun a ha b hb z => ?_⟩
            have hb' : b = m.1 := by simpa using hb
            rw [z, hb'] at ha
            obtain ⟨⟨p, r'⟩, h1, h2⟩ := List.mem_map.mp ha
            have h3 : p = m.1 := h2
            rw [h3] at h1
            exact c2.2 (isRow_iff.mpr ⟨r', h1⟩)
          · rcases List.mem_append.mp he with z | z
            · exact h.lo e z
            · rw [List.mem_singleton.mp z]
              exact c2.1
        refine ⟨f2, ?_⟩
        have l1 := nodup_le f2.nd (n := ws.length) (fun x hx => by
          obtain ⟨e, h1, h2⟩ := List.mem_map.mp hx
          rw [← h2]
          exact f2.lo e h1)
        rw [List.length_map] at l1
        unfold tmu
        dsimp only at l1 ⊢
        rw [List.length_append, List.length_singleton] at l1 ⊢
        have h1 := foldl_len (p := m.1) (leads r m.1) s.wait
        have h2 := leads_len r m.1
        omega
theorem tstep_fit {ws : List Int} {s : TS} (h : Fit ws s) : Fit ws (tstep ws s) ∧ (s.wait ≠ [] → tmu ws (tstep ws s) < tmu ws s) := by
  unfold tstep
  cases hw : s.wait with
  | nil => exact ⟨h, fun z => absurd rfl z⟩
  | cons x r =>
    dsimp only
    have hm : minP x r ∈ x :: r := by
      rcases minP_mem r x with q | q
      · rw [q]
        exact List.mem_cons_self
      · exact List.mem_cons_of_mem _ q
    generalize minP x r = m at hm
    obtain ⟨h1, h2⟩ := look_fit (ws := ws) (s := { s with wait := (x :: r).filter fun y => decide (y ≠ m) }) (m := m) ⟨h.nd, h.lo⟩
    refine ⟨h1, fun _ => ?_⟩
    have h3 : ((x :: r).filter fun y => decide (y ≠ m)).length < (x :: r).length := by
      refine Nat.lt_of_le_of_ne (List.length_filter_le _ _) fun z => ?_
      have := List.length_filter_eq_length_iff.mp z m hm
      exact absurd rfl (of_decide_eq_true this)
    unfold tmu at h2 ⊢
    dsimp only at h2
    rw [hw]
    omega
theorem traceN_done {ws : List Int} : ∀ {n : Nat} {s : TS}, Fit ws s → tmu ws s ≤ n → (traceN ws n s).wait = []
  | 0, s, h, hn => by
    show s.wait = []
    unfold tmu at hn
    exact List.eq_nil_of_length_eq_zero (by omega)
  | n + 1, s, h, hn => by
    show (traceN ws n (tstep ws s)).wait = []
    obtain ⟨h1, h2⟩ := tstep_fit h
    by_cases e : s.wait = []
    · have e2 : tstep ws s = s := by
        unfold tstep
        rw [e]
      have e3 : ∀ k, (traceN ws k s).wait = [] := fun k => by
        induction k with
        | zero => exact e
        | succ k ih =>
          show (traceN ws k (tstep ws s)).wait = []
          rw [e2]
          exact ih
      rw [e2]
      exact e3 n
    · exact traceN_done h1 (by have := h2 e; omega)
/-- all that is come to, and apart -/
def trace (ws bs : List Int) : TS := traceN ws (2 * ws.length + bs.length) (begin0 bs)
theorem trace_tr (ws bs : List Int) : Tr ws bs (trace ws bs) := traceN_tr (begin0_tr ws bs)
theorem begin0_len (bs : List Int) : (begin0 bs).wait.length ≤ bs.length := by
  have h : ∀ (l : List Int) (w : List Pt), (l.foldl (fun w b => insP w (b, -1)) w).length ≤ w.length + l.length := by
    intro l
    induction l with
    | nil => simp
    | cons a r ih =>
      intro w
      rw [List.foldl_cons]
      have h1 := ih (insP w (a, -1))
      have h2 := insP_len w (a, -1)
      simp only [List.length_cons]
      omega
  have := h bs []
  simpa [begin0] using this
theorem trace_done (ws bs : List Int) : (trace ws bs).wait = [] := by
  refine traceN_done ⟨by simp [begin0], fun e h => (by cases h)⟩ ?_
  have := begin0_len bs
  unfold tmu
  have e : (begin0 bs).rows = [] := rfl
  rw [e]
  simp
  omega
def ApartP (s : TS) (q : Int) : Prop := ∃ f, (f, q) ∈ s.apart
theorem trace_cl (ws bs : List Int) : Cl ws (RowsP (trace ws bs)) (ApartP (trace ws bs)) := by
  refine ⟨fun p r ⟨r', hp⟩ er q hq hn => ?_⟩
  have h := trace_tr ws bs
  have e : r' = r := by
    have := h.is p r' hp
    rw [er] at this
    exact (Option.some.inj this).symm
  subst e
  rcases h.led p r' hp q hq with z | z | z | z
  · rw [trace_done] at z
    cases z
  · exact absurd z hn
  · exact .inl z
  · exact .inr ⟨p, z⟩
theorem trace_beg {ws bs : List Int} {b : Int} (hb : b ∈ bs) (hn : rowAt ws b ≠ none) : RowsP (trace ws bs) b ∨ ApartP (trace ws bs) b := by
  rcases (trace_tr ws bs).beg b hb with z | z | z | z
  · rw [trace_done] at z
    cases z
  · exact absurd z hn
  · exact .inl z
  · exact .inr ⟨_, z⟩
/-- more places to begin at come to no fewer, where none is apart -/
theorem trace_more {ws bs cs : List Int} (sub : ∀ b ∈ bs, b ∈ cs) (hc : (trace ws cs).apart = []) {p : Int} (hp : RowsP (trace ws bs) p) : RowsP (trace ws cs) p := by
  have h := trace_tr ws bs
  have noA : ∀ q, ¬ ApartP (trace ws cs) q := fun q ⟨f, z⟩ => by
    rw [hc] at z
    cases z
  have key : ∀ (n i : Nat) (p : Int) (r : Row), i ≤ n → (trace ws bs).rows[i]? = some (p, r) → RowsP (trace ws cs) p := by
    intro n
    induction n with
    | zero =>
      intro i p r hi he
      have hr := h.is p r (List.mem_of_getElem? he)
      have hn : rowAt ws p ≠ none := by
        rw [hr]
        exact fun z => by cases z
      rcases h.ord i p r he with z | ⟨j, p', r', z1, z2, z3⟩
      · rcases trace_beg (sub p z) hn with y | y
        · exact y
        · exact absurd y (noA p)
      · omega
    | succ n ih =>
      intro i p r hi he
      have hr := h.is p r (List.mem_of_getElem? he)
      have hn : rowAt ws p ≠ none := by
        rw [hr]
        exact fun z => by cases z
      rcases h.ord i p r he with z | ⟨j, p', r', z1, z2, z3⟩
      · rcases trace_beg (sub p z) hn with y | y
        · exact y
        · exact absurd y (noA p)
      · have h1 := ih j p' r' (by omega) z2
        rcases (trace_cl ws cs).led p' r' h1 (h.is p' r' (List.mem_of_getElem? z2)) p z3 hn with y | y
        · exact y
        · exact absurd y (noA p)
  obtain ⟨r, hp⟩ := hp
  obtain ⟨i, hi, e⟩ := List.mem_iff_getElem.mp hp
  exact key i i p r (Nat.le_refl _) (by rw [List.getElem?_eq_getElem hi, e])
end Rs
/-! The walk with repeats (a list of what waits) comes to the same as the trace. -/
namespace Rs
open PySem
theorem lt2_iff {a b : Pt} : lt2 a b = true ↔ a.1 < b.1 ∨ (a.1 = b.1 ∧ a.2 < b.2) := by
  unfold lt2
  exact decide_eq_true_iff
theorem lt2_no {a b : Pt} : lt2 a b = false ↔ b.1 < a.1 ∨ (a.1 = b.1 ∧ b.2 ≤ a.2) := by
  rw [← Bool.not_eq_true, lt2_iff]
  omega
theorem lt2_tot {a b : Pt} (h1 : lt2 a b = false) (h2 : lt2 b a = false) : a = b := by
  have := lt2_no.mp h1
  have := lt2_no.mp h2
  exact Prod.ext (by omega) (by omega)
theorem minP_le : ∀ (l : List Pt) (m : Pt), lt2 m (minP m l) = false ∧ ∀ y ∈ l, lt2 y (minP m l) = false
  | [], m => ⟨lt2_no.mpr (.inr ⟨rfl, Int.le_refl _⟩), fun y h => by cases h⟩
  | x :: r, m => by
    unfold minP
    by_cases h : lt2 x m = true
    · rw [if_pos h]
      obtain ⟨h1, h2⟩ := minP_le r x
      have a1 := lt2_iff.mp h
      have a2 := lt2_no.mp h1
      refine ⟨lt2_no.mpr (by omega), fun y hy => ?_⟩
      rcases List.mem_cons.mp hy with rfl | hy
      · exact h1
      · exact h2 y hy
    · rw [if_neg h]
      obtain ⟨h1, h2⟩ := minP_le r m
      have a1 := lt2_no.mp (Bool.eq_false_iff.mpr h)
      have a2 := lt2_no.mp h1
      refine ⟨h1, fun y hy => ?_⟩
      rcases List.mem_cons.mp hy with rfl | hy
      · exact lt2_no.mpr (by omega)
      · exact h2 y hy
theorem minP_all {x : Pt} {r : List Pt} : minP x r ∈ x :: r ∧ ∀ y ∈ x :: r, lt2 y (minP x r) = false := by
  refine ⟨?_, fun y hy => ?_⟩
  · rcases minP_mem r x with q | q
    · rw [q]
      exact List.mem_cons_self
    · exact List.mem_cons_of_mem _ q
  · rcases List.mem_cons.mp hy with rfl | hy
    · exact (minP_le r y).1
    · exact (minP_le r x).2 y hy
theorem minP_uniq {x : Pt} {r : List Pt} {m : Pt} (h1 : m ∈ x :: r) (h2 : ∀ y ∈ x :: r, lt2 y m = false) : minP x r = m := by
  obtain ⟨a1, a2⟩ := minP_all (x := x) (r := r)
  exact lt2_tot (h2 _ a1) (a2 _ h1)
/-- one that waits no more: the program's look, with repeats -/
def lookP (ws : List Int) (s : TS) (m : Pt) : TS :=
  if ¬ (0 ≤ m.1 ∧ m.1 < (ws.length : Int)) ∨ isRow s.rows m.1 = true then s
  else match rowAt ws m.1 with
    | none => if covers s.rows m.1 = true then { s with apart := s.apart ++ [(m.2, m.1)] } else s
    | some r => if hits s.rows m.1 r.size = true then { s with apart := s.apart ++ [(m.2, m.1)] }
      else { s with rows := s.rows ++ [(m.1, r)], wait := s.wait ++ (leads r m.1).map fun q => (q, m.1) }
def pstep (ws : List Int) (s : TS) : TS := match s.wait with
  | [] => s
  | x :: r => lookP ws { s with wait := (x :: r).erase (minP x r) } (minP x r)
theorem covers_mono {rows : List (Int × Row)} {e : Int × Row} {q : Int} (h : covers rows q = true) : covers (rows ++ [e]) q = true := by
  unfold covers at h ⊢
  rw [List.any_append, h]
  rfl
theorem hits_mono {rows : List (Int × Row)} {e : Int × Row} {p : Int} {n : Nat} (h : hits rows p n = true) : hits (rows ++ [e]) p n = true := by
  unfold hits at h ⊢
  obtain ⟨k, h1, h2⟩ := List.any_eq_true.mp h
  exact List.any_eq_true.mpr ⟨k, h1, covers_mono h2⟩
theorem isRow_mono {rows : List (Int × Row)} {e : Int × Row} {p : Int} (h : isRow rows p = true) : isRow (rows ++ [e]) p = true := by
  unfold isRow at h ⊢
  rw [List.any_append, h]
  rfl
/-- looked at again it changes nothing, now and later -/
def Stale (ws : List Int) (t : TS) (y : Pt) : Prop := ¬ (0 ≤ y.1 ∧ y.1 < (ws.length : Int)) ∨ isRow t.rows y.1 = true ∨
  ((y.2, y.1) ∈ t.apart ∧ (match rowAt ws y.1 with | none => covers t.rows y.1 = true | some r => hits t.rows y.1 r.size = true))
/-- the same rows; what waits in t waits in s; what waits in s alone is stale, or is next and nothing -/
structure Sim (ws : List Int) (s t : TS) : Prop where
  rows : s.rows = t.rows
  apart : ∀ e, e ∈ s.apart ↔ e ∈ t.apart
  to : ∀ y ∈ t.wait, y ∈ s.wait
  of : ∀ y ∈ s.wait, y ∈ t.wait ∨ Stale ws t y ∨ (rowAt ws y.1 = none ∧ covers t.rows y.1 = false ∧ ∀ z ∈ s.wait, lt2 z y = false)
theorem mem_erase_of {l : List Pt} {m y : Pt} (h : y ∈ l.erase m) : y ∈ l := List.mem_of_mem_erase h
/-- the program looks at what the trace doesn't wait for -/
theorem sim_idle {ws : List Int} {s t : TS} {x : Pt} {r : List Pt} (S : Sim ws s t) (hw : s.wait = x :: r) (hn : minP x r ∉ t.wait) : Sim ws (pstep ws s) t := by
  have e : pstep ws s = lookP ws { s with wait := (x :: r).erase (minP x r) } (minP x r) := by
    unfold pstep
    rw [hw]
  obtain ⟨m1, m2⟩ := minP_all (x := x) (r := r)
  rw [e]
  generalize minP x r = m at hn m1 m2
  have base : ∀ u : TS, u.rows = s.rows → (∀ z, z ∈ u.apart ↔ z ∈ s.apart) → u.wait = (x :: r).erase m → Sim ws u t := fun u u1 u2 u3 => by
    refine ⟨u1.trans S.rows, fun z => (u2 z).trans (S.apart z), fun y hy => ?_, fun y hy => ?_⟩
    · have h1 := S.to y hy
      rw [hw] at h1
      have h2 : y ≠ m := fun z => hn (by rw [← z]; exact hy)
      rw [u3]
      exact (List.mem_erase_of_ne h2).mpr h1
    · rw [u3] at hy
      have h1 : y ∈ s.wait := by
        rw [hw]
        exact mem_erase_of hy
      rcases S.of y h1 with q | q | ⟨q1, q2, q3⟩
      · exact .inl q
      · exact .inr (.inl q)
      · refine .inr (.inr ⟨q1, q2, fun z hz => q3 z ?_⟩)
        rw [hw]
        rw [u3] at hz
        exact mem_erase_of hz
  have hm : m ∈ s.wait := by
    rw [hw]
    exact m1
  unfold lookP
  by_cases c : ¬ (0 ≤ m.1 ∧ m.1 < (ws.length : Int)) ∨ isRow s.rows m.1 = true
  · rw [if_pos c]
    exact base _ rfl (fun _ => Iff.rfl) rfl
  · rw [if_neg c]
    have dup : (m.2, m.1) ∈ t.apart → ∀ u : TS, u = { s with wait := (x :: r).erase m, apart := s.apart ++ [(m.2, m.1)] } → Sim ws u t := fun h u eu => by
      subst eu
      refine base _ rfl (fun z => ?_) rfl
      show z ∈ s.apart ++ [(m.2, m.1)] ↔ z ∈ s.apart
      rw [List.mem_append, List.mem_singleton]
      constructor
      · rintro (q | q)
        · exact q
        · rw [q]
          exact (S.apart _).mpr h
      · exact .inl
    rcases S.of m hm with q | q | ⟨q1, q2, _⟩
    · exact absurd q hn
    · rcases q with q | q | ⟨q1, q2⟩
      · exact absurd (.inl q) c
      · rw [← S.rows] at q
        exact absurd (.inr q) c
      · rw [← S.rows] at q2
        cases er : rowAt ws m.1 with
        | none =>
          rw [er] at q2
          dsimp only at q2 ⊢
          rw [if_pos q2]
          exact dup q1 _ rfl
        | some r' =>
          rw [er] at q2
          dsimp only at q2 ⊢
          rw [if_pos q2]
          exact dup q1 _ rfl
    · rw [q1]
      dsimp only
      rw [S.rows, q2, if_neg (by decide)]
      exact base _ S.rows.symm (fun _ => Iff.rfl) rfl
/-- both look at the same -/
theorem sim_both {ws : List Int} {s t : TS} {x : Pt} {r : List Pt} (S : Sim ws s t) (hw : s.wait = x :: r) (hn : minP x r ∈ t.wait) : Sim ws (pstep ws s) (tstep ws t) := by
  have e : pstep ws s = lookP ws { s with wait := (x :: r).erase (minP x r) } (minP x r) := by
    unfold pstep
    rw [hw]
  obtain ⟨m1, m2⟩ := minP_all (x := x) (r := r)
  have e2 : tstep ws t = look ws { t with wait := t.wait.filter fun y => decide (y ≠ minP x r) } (minP x r) := by
    cases hw2 : t.wait with
    | nil =>
      rw [hw2] at hn
      cases hn
    | cons x2 r2 =>
      have : minP x2 r2 = minP x r := by
        refine minP_uniq (by rw [← hw2]; exact hn) fun y hy => m2 y ?_
        rw [← hw]
        exact S.to y (by rw [hw2]; exact hy)
      unfold tstep
      rw [hw2]
      dsimp only
      rw [this]
  rw [e, e2]
  generalize minP x r = m at hn m1 m2
  -- what waits still, behind the look
  have keep : ∀ t' : TS, (∀ y, Stale ws t y → Stale ws t' y) → t'.rows = t.rows → (∀ y ∈ t.wait, y ≠ m → y ∈ t'.wait) → (Stale ws t' m ∨ (rowAt ws m.1 = none ∧ covers t.rows m.1 = false)) →
      ∀ y ∈ (x :: r).erase m, y ∈ t'.wait ∨ Stale ws t' y ∨ (rowAt ws y.1 = none ∧ covers t'.rows y.1 = false ∧ ∀ z ∈ (x :: r).erase m, lt2 z y = false) := fun t' st er tw hm y hy => by
    have hy1 : y ∈ x :: r := mem_erase_of hy
    by_cases ym : y = m
    · subst ym
      rcases hm with q | ⟨q1, q2⟩
      · exact .inr (.inl q)
      · exact .inr (.inr ⟨q1, by rw [er]; exact q2, fun z hz => m2 z (mem_erase_of hz)⟩)
    · rcases S.of y (by rw [hw]; exact hy1) with q | q | ⟨q1, q2, q3⟩
      · exact .inl (tw y q ym)
      · exact .inr (.inl (st y q))
      · refine .inr (.inr ⟨q1, by rw [er]; exact q2, fun z hz => q3 z ?_⟩)
        rw [hw]
        exact mem_erase_of hz
  have wto : ∀ y ∈ t.wait.filter (fun y => decide (y ≠ m)), y ∈ (x :: r).erase m := fun y hy => by
    obtain ⟨h1, h2⟩ := List.mem_filter.mp hy
    have h3 := S.to y h1
    rw [hw] at h3
    exact (List.mem_erase_of_ne (of_decide_eq_true h2)).mpr h3
  have wof : ∀ y ∈ t.wait, y ≠ m → y ∈ t.wait.filter fun y => decide (y ≠ m) := fun y h1 h2 => List.mem_filter.mpr ⟨h1, decide_eq_true h2⟩
  unfold lookP look
  dsimp only
  rw [S.rows]
  by_cases c : ¬ (0 ≤ m.1 ∧ m.1 < (ws.length : Int)) ∨ isRow t.rows m.1 = true
  · rw [if_pos c, if_pos c]
    refine ⟨rfl, S.apart, wto, keep _ (fun _ z => z) rfl wof (.inl ?_)⟩
    rcases c with c | c
    · exact .inl c
    · exact .inr (.inl c)
  · rw [if_neg c, if_neg c]
    -- it is apart
    have ap : (match rowAt ws m.1 with | none => covers t.rows m.1 = true | some r => hits t.rows m.1 r.size = true) →
        Sim ws { s with rows := t.rows, wait := (x :: r).erase m, apart := s.apart ++ [(m.2, m.1)] } { t with wait := t.wait.filter fun y => decide (y ≠ m), apart := insP t.apart (m.2, m.1) } := fun h => by
      have mono : ∀ y, Stale ws t y → Stale ws { t with wait := t.wait.filter fun y => decide (y ≠ m), apart := insP t.apart (m.2, m.1) } y := fun y z => by
        rcases z with z | z | ⟨z1, z2⟩
        · exact .inl z
        · exact .inr (.inl z)
        · exact .inr (.inr ⟨mem_insP.mpr (.inl z1), z2⟩)
      refine ⟨rfl, fun z => ?_, wto, keep _ mono rfl wof (.inl (.inr (.inr ⟨mem_insP.mpr (.inr rfl), h⟩)))⟩
      show z ∈ s.apart ++ [(m.2, m.1)] ↔ z ∈ insP t.apart (m.2, m.1)
      rw [List.mem_append, List.mem_singleton, mem_insP, S.apart]
    cases er : rowAt ws m.1 with
    | none =>
      rw [er] at ap
      dsimp only at ap ⊢
      by_cases c2 : covers t.rows m.1 = true
      · rw [if_pos c2, if_pos c2]
        exact ap c2
      · rw [if_neg c2, if_neg c2]
        exact ⟨rfl, S.apart, wto, keep _ (fun _ z => z) rfl wof (.inr ⟨er, Bool.eq_false_iff.mpr c2⟩)⟩
    | some r' =>
      rw [er] at ap
      dsimp only at ap ⊢
      by_cases c2 : hits t.rows m.1 r'.size = true
      · rw [if_pos c2, if_pos c2]
        exact ap c2
      · rw [if_neg c2, if_neg c2]
        refine ⟨rfl, S.apart, fun y hy => ?_, fun y hy => ?_⟩
        · rcases foldl_ins.mp hy with z | ⟨q, z1, z2⟩
          · exact List.mem_append_left _ (wto y z)
          · exact List.mem_append_right _ (List.mem_map.mpr ⟨q, z1, z2.symm⟩)
        · have up : ∀ y, Stale ws t y → Stale ws { t with rows := t.rows ++ [(m.1, r')], wait := (leads r' m.1).foldl (fun w q => insP w (q, m.1)) (t.wait.filter fun y => decide (y ≠ m)) } y := fun y z => by
            rcases z with z | z | ⟨z1, z2⟩
            · exact .inl z
            · exact .inr (.inl (isRow_mono z))
            · refine .inr (.inr ⟨z1, ?_⟩)
              cases er2 : rowAt ws y.1 with
              | none =>
                rw [er2] at z2
                exact covers_mono z2
              | some r2 =>
                rw [er2] at z2
                exact hits_mono z2
          rcases List.mem_append.mp hy with hy | hy
          · have hy1 : y ∈ x :: r := mem_erase_of hy
            by_cases ym : y = m
            · subst ym
              refine .inr (.inl (.inr (.inl ?_)))
              exact isRow_iff.mpr ⟨r', List.mem_append_right _ (List.mem_singleton.mpr rfl)⟩
            · rcases S.of y (by rw [hw]; exact hy1) with q | q | ⟨q1, q2, q3⟩
              · exact .inl (foldl_ins.mpr (.inl (wof y q ym)))
              · exact .inr (.inl (up y q))
              · exact absurd (lt2_tot (m2 y hy1) (q3 m (by rw [hw]; exact m1))) ym
          · obtain ⟨q, z1, z2⟩ := List.mem_map.mp hy
            exact .inl (foldl_ins.mpr (.inr ⟨q, z1, z2.symm⟩))
theorem traceN_add {ws : List Int} : ∀ (a b : Nat) (s : TS), traceN ws (a + b) s = traceN ws b (traceN ws a s)
  | 0, b, s => by rw [Nat.zero_add]; rfl
  | a + 1, b, s => by
    rw [Nat.add_right_comm]
    exact traceN_add a b (tstep ws s)
theorem traceN_still {ws : List Int} {s : TS} (h : s.wait = []) : ∀ n, traceN ws n s = s
  | 0 => rfl
  | n + 1 => by
    show traceN ws n (tstep ws s) = s
    have e : tstep ws s = s := by
      unfold tstep
      rw [h]
    rw [e]
    exact traceN_still h n
theorem trace_eq {ws bs : List Int} {n : Nat} (h : (traceN ws n (begin0 bs)).wait = []) : traceN ws n (begin0 bs) = trace ws bs := by
  unfold trace
  rcases Nat.le_total n (2 * ws.length + bs.length) with q | q
  · obtain ⟨k, e⟩ := Nat.exists_eq_add_of_le q
    rw [e, traceN_add, traceN_still h]
  · obtain ⟨k, e⟩ := Nat.exists_eq_add_of_le q
    rw [e, traceN_add]
    exact traceN_still (trace_done ws bs) k
/-- where the program's walk stands: beside some step of the trace -/
def Beside (ws bs : List Int) (s : TS) : Prop := ∃ n, Sim ws s (traceN ws n (begin0 bs))
def start0 (bs : List Int) : TS := ⟨[], bs.map fun b => (b, -1), []⟩
theorem beside0 (ws bs : List Int) : Beside ws bs (start0 bs) := by
  refine ⟨0, rfl, fun e => Iff.rfl, fun y hy => ?_, fun y hy => .inl ?_⟩
  · obtain ⟨b, h1, h2⟩ := begin0_mem.mp hy
    exact List.mem_map.mpr ⟨b, h1, h2.symm⟩
  · obtain ⟨b, h1, h2⟩ := List.mem_map.mp hy
    exact begin0_mem.mpr ⟨b, h1, h2.symm⟩
theorem beside_step {ws bs : List Int} {s : TS} (h : Beside ws bs s) : Beside ws bs (pstep ws s) := by
  obtain ⟨n, S⟩ := h
  cases hw : s.wait with
  | nil =>
    have e : pstep ws s = s := by
      unfold pstep
      rw [hw]
    rw [e]
    exact ⟨n, S⟩
  | cons x r =>
    by_cases hn : minP x r ∈ (traceN ws n (begin0 bs)).wait
    · refine ⟨n + 1, ?_⟩
      rw [traceN_add]
      exact sim_both S hw hn
    · exact ⟨n, sim_idle S hw hn⟩
theorem beside_end {ws bs : List Int} {s : TS} (h : Beside ws bs s) (hw : s.wait = []) : s.rows = (trace ws bs).rows ∧ ∀ e, e ∈ s.apart ↔ e ∈ (trace ws bs).apart := by
  obtain ⟨n, S⟩ := h
  have e : (traceN ws n (begin0 bs)).wait = [] := by
    cases q : (traceN ws n (begin0 bs)).wait with
    | nil => rfl
    | cons y l =>
      have := S.to y (by rw [q]; exact List.mem_cons_self)
      rw [hw] at this
      cases this
  rw [← trace_eq e]
  exact ⟨S.rows, S.apart⟩
theorem lookP_split (ws : List Int) (rows : List (Int × Row)) (wt ap : List Pt) (m : Pt) : lookP ws ⟨rows, wt, ap⟩ m = ⟨(lookP ws ⟨rows, [], ap⟩ m).rows, wt ++ (lookP ws ⟨rows, [], ap⟩ m).wait, (lookP ws ⟨rows, [], ap⟩ m).apart⟩ := by
  unfold lookP
  by_cases c : ¬ (0 ≤ m.1 ∧ m.1 < (ws.length : Int)) ∨ isRow rows m.1 = true
  · rw [if_pos c, if_pos c, List.append_nil]
  · rw [if_neg c, if_neg c]
    cases rowAt ws m.1 with
    | none =>
      dsimp only
      by_cases c2 : covers rows m.1 = true
      · rw [if_pos c2, if_pos c2, List.append_nil]
      · rw [if_neg c2, if_neg c2, List.append_nil]
    | some r =>
      dsimp only
      by_cases c2 : hits rows m.1 r.size = true
      · rw [if_pos c2, if_pos c2, List.append_nil]
      · rw [if_neg c2, if_neg c2, List.nil_append]
/-- of a look: what it leads to comes from the place; at most two; one more apart, or one row more -/
theorem lookP_new (ws : List Int) (rows : List (Int × Row)) (ap : List Pt) (m : Pt) : (lookP ws ⟨rows, [], ap⟩ m).wait = ((lookP ws ⟨rows, [], ap⟩ m).wait.map (·.1)).map (fun q => (q, m.1)) ∧
    (((lookP ws ⟨rows, [], ap⟩ m).rows = rows ∧ (lookP ws ⟨rows, [], ap⟩ m).wait = [] ∧ (lookP ws ⟨rows, [], ap⟩ m).apart.length ≤ ap.length + 1) ∨ (∃ r, (lookP ws ⟨rows, [], ap⟩ m).rows = rows ++ [(m.1, r)] ∧ (lookP ws ⟨rows, [], ap⟩ m).wait.length ≤ 2 ∧ (lookP ws ⟨rows, [], ap⟩ m).apart = ap)) := by
  unfold lookP
  by_cases c : ¬ (0 ≤ m.1 ∧ m.1 < (ws.length : Int)) ∨ isRow rows m.1 = true
  · rw [if_pos c]
    exact ⟨rfl, .inl ⟨rfl, rfl, Nat.le_succ _⟩⟩
  · rw [if_neg c]
    cases rowAt ws m.1 with
    | none =>
      dsimp only
      by_cases c2 : covers rows m.1 = true
      · rw [if_pos c2]
        exact ⟨rfl, .inl ⟨rfl, rfl, by simp⟩⟩
      · rw [if_neg c2]
        exact ⟨rfl, .inl ⟨rfl, rfl, Nat.le_succ _⟩⟩
    | some r =>
      dsimp only
      by_cases c2 : hits rows m.1 r.size = true
      · rw [if_pos c2]
        exact ⟨rfl, .inl ⟨rfl, rfl, by simp⟩⟩
      · rw [if_neg c2]
        refine ⟨?_, .inr ⟨r, rfl, ?_, rfl⟩⟩
        · simp [List.map_map, Function.comp_def]
        · dsimp only
          rw [List.nil_append, List.length_map]
          exact leads_len r m.1
theorem traceN_fit {ws : List Int} : ∀ {n : Nat} {s : TS}, Fit ws s → Fit ws (traceN ws n s)
  | 0, s, h => h
  | n + 1, s, h => by
    show Fit ws (traceN ws n (tstep ws s))
    exact traceN_fit (tstep_fit h).1
theorem beside_len {ws bs : List Int} {s : TS} (h : Beside ws bs s) : s.rows.length ≤ ws.length := by
  obtain ⟨n, S⟩ := h
  have f : Fit ws (traceN ws n (begin0 bs)) := traceN_fit ⟨by simp [begin0], fun e h => (by cases h)⟩
  rw [S.rows]
  have := nodup_le (n := ws.length) f.nd fun x hx => by
    obtain ⟨e, h1, h2⟩ := List.mem_map.mp hx
    rw [← h2]
    exact f.lo e h1
  rwa [List.length_map] at this
theorem pstep_eq {ws : List Int} {s : TS} {x : Pt} {r : List Pt} (hw : s.wait = x :: r) : pstep ws s = ⟨(lookP ws ⟨s.rows, [], s.apart⟩ (minP x r)).rows, s.wait.erase (minP x r) ++ (lookP ws ⟨s.rows, [], s.apart⟩ (minP x r)).wait, (lookP ws ⟨s.rows, [], s.apart⟩ (minP x r)).apart⟩ := by
  unfold pstep
  rw [hw]
  exact lookP_split ws s.rows _ s.apart _
theorem pstep_mu {ws bs : List Int} {s : TS} {x : Pt} {r : List Pt} (hb : Beside ws bs s) (hw : s.wait = x :: r) : tmu ws (pstep ws s) < tmu ws s ∧ (pstep ws s).apart.length + tmu ws (pstep ws s) ≤ s.apart.length + tmu ws s := by
  have h1 := beside_len (beside_step hb)
  have hm := (minP_all (x := x) (r := r)).1
  rw [pstep_eq hw] at h1 ⊢
  obtain ⟨_, h2⟩ := lookP_new ws s.rows s.apart (minP x r)
  have he : (s.wait.erase (minP x r)).length + 1 = s.wait.length := by
    rw [hw, List.length_erase_of_mem hm]
    rfl
  unfold tmu
  dsimp only at h1 ⊢
  rw [List.length_append]
  rcases h2 with ⟨a1, a2, a3⟩ | ⟨r', a1, a2, a3⟩
  · rw [a1, a2]
    simp only [List.length_nil]
    omega
  · rw [a1] at h1 ⊢
    rw [a3]
    rw [List.length_append, List.length_singleton] at h1 ⊢
    omega
theorem insP_nodup {w : List Pt} {x : Pt} (h : w.Nodup) : (insP w x).Nodup := by
  unfold insP
  by_cases q : x ∈ w
  · rw [if_pos q]
    exact h
  · rw [if_neg q]
    refine List.nodup_append.mpr ⟨h, by simp, fun a ha b hb => ?_⟩
    rw [List.mem_singleton.mp hb]
    exact fun z => q (by rw [← z]; exact ha)
theorem look_nodup {ws : List Int} {s : TS} {m : Pt} (h : s.apart.Nodup) : (look ws s m).apart.Nodup := by
  unfold look
  split
  · exact h
  · split
    · split
      · exact insP_nodup h
      · exact h
    · split
      · exact insP_nodup h
      · exact h
theorem traceN_nodup {ws : List Int} : ∀ {n : Nat} {s : TS}, s.apart.Nodup → (traceN ws n s).apart.Nodup
  | 0, s, h => h
  | n + 1, s, h => by
    show (traceN ws n (tstep ws s)).apart.Nodup
    refine traceN_nodup (n := n) ?_
    unfold tstep
    split
    · exact h
    · exact look_nodup h
theorem apart_nodup (ws bs : List Int) : (trace ws bs).apart.Nodup := traceN_nodup (by simp [begin0])
end Rs
namespace Rs
open PySem PySem.Spec PyProof.Rows L2 C8
section
variable {P : Program} {w : World} {K : PySem.W.Frag} {mg : Str → Option Value} {base : Heap}
/-- a row as row_at tells it -/
def RowT (H : Hp) (t b n : Addr) (r : Row) : Prop := H t = some (.tup [.str r.k.str, .ref b, .ref n]) ∧ H b = some (.lst (il r.bx)) ∧ H n = some (.lst (il r.nm))
def goalV (r : Row) (p : Int) : V := match goals r p with
  | [] => .non
  | g :: _ => .int g
def spGoal : Sp := fun vs H Q _ => ∃ (p : Int) (t b n : Addr) (r : Row), vs = [.int p, .ref t] ∧ RowT H t b n r ∧ Ok r ∧ Q (goalV r p) H
theorem num0 {r : Row} (ho : Ok r) (h : nNum r.k = 1) : r.nm = [r.nm.getD 0 0] := by
  have hl := ho.nl
  rw [h] at hl
  match hn : r.nm, hl with
  | [a], _ => rfl
theorem ok_goal_of (D : DefAt K mg "goal_of" sD_goal_of) (T : Txt w K mg) (c_row_size : Cal P w K mg base 1 "row_size" spSize []) (c_signed : Cal P w K mg base 1 "signed" spSigned []) : Cal P w K mg base 2 "goal_of" spGoal [] := by
  refine cal_of D sc_goal_of (fun _ _ _ _ _ _ us hl => match us, hl with | [_, _], _ => rfl) (fun vs H Q E h => ?_) (fun cdv A outer s H vs Q E hr h => ?_)
  · obtain ⟨p, t, b, n, r, rfl, _⟩ := h
    rfl
  · obtain ⟨p, t, b, n, r, rfl, ⟨h1, h2, h3⟩, ho, k⟩ := h
    refine ⟨_, (pss_cons (ps_asg (pv 1) (pg_tup rfl (pgs_cons (pg_name (i := 2) sc_goal_of.nd rfl (Or.inl rfl)) (pgs_cons (pg_name (i := 3) sc_goal_of.nd rfl (Or.inl rfl)) (pgs_cons (pg_name (i := 4) sc_goal_of.nd rfl (Or.inl rfl)) pgs_nil)))))
  (pss_cons (ps_if (pt_cmpR op_eq (pv 2) pe_str (nomark _))
   (pss_one (ps_ret (pe_op op_add (pe_op op_add (pv 0) (pe_c c_row_size hr (by decide) (by rfl) (pa_cons (pv 2) pa_nil))) (pe_c c_signed hr (by decide) (by rfl) (pa_cons (pe_ix ix_list (pv 4) pe_int (fun _ _ => rfl)) pa_nil)))))
   pss_nil)
  (pss_one (ps_ret (pe_ifExp (pt_cmpR op_in_seq (pv 2) (pe_gR (by rfl) T.g_GOING) (by rfl)) (pe_ix ix_list (pv 4) pe_int (fun _ _ => rfl)) pe_non))))), ?_⟩
    refine ⟨_, rfl, t, _, rfl, SqT.of h1, rfl, _, _, rfl, _, _, rfl, _, _, rfl, rfl, ?_⟩
    refine ⟨_, rfl, rfl, _, rfl, ?_⟩
    by_cases hk : r.k = .skip
    · refine ite2 (fun _ => ?_) (fun q => absurd (decide_eq_true (by rw [hk]; rfl)) q)
      have e := num0 ho (by rw [hk]; rfl)
      refine ⟨_, rfl, _, rfl, r.k, rfl, _, _, rfl, rfl, _, rfl, n, _, _, _, rfl, rfl, SqL.of h3, (by rw [e]; exact atI_nat (j := 0) rfl), _, rfl, _, _, rfl, rfl, ?_⟩
      have eg : goalV r p = .int (p + ((rSize r.k : Nat) : Int) + sgn (r.nm.getD 0 0)) := by
        unfold goalV goals
        rw [hk]
        show V.int (p + ((r.size : Nat) : Int) + _) = _
        rw [ho.sz, hk]
      rw [eg] at k
      exact k
    · refine ite2 (fun q => absurd (V.str.inj (of_decide_eq_true q)) (by revert hk; cases r.k <;> decide +kernel)) (fun _ => ?_)
      refine ⟨_, rfl, _, _, rfl, .inr (T.t_GOING _), rfl, rfl, _, rfl, ?_⟩
      by_cases hg : r.k = .jump ∨ r.k = .call ∨ r.k = .zero ∨ r.k = .same
      · have ei : inV (V.str r.k.str) [.str "jump", .str "call", .str "zero", .str "same"] = true := by
          rcases hg with e | e | e | e <;> rw [e] <;> decide +kernel
        have e := num0 ho (by rcases hg with e | e | e | e <;> rw [e] <;> rfl)
        rw [show (if (false : Bool) = true then !inV (V.str r.k.str) [.str "jump", .str "call", .str "zero", .str "same"] else inV (V.str r.k.str) [.str "jump", .str "call", .str "zero", .str "same"]) = true from ei]
        refine iteT ⟨_, rfl, n, _, _, _, rfl, rfl, SqL.of h3, (by rw [e]; exact atI_nat (j := 0) rfl), ?_⟩
        have eg : goalV r p = .int (r.nm.getD 0 0) := by
          unfold goalV goals
          rcases hg with e | e | e | e <;> rw [e]
        rw [eg] at k
        exact k
      · have ei : inV (V.str r.k.str) [.str "jump", .str "call", .str "zero", .str "same"] = false := by
          revert hg
          cases r.k <;> decide +kernel
        rw [show (if (false : Bool) = true then !inV (V.str r.k.str) [.str "jump", .str "call", .str "zero", .str "same"] else inV (V.str r.k.str) [.str "jump", .str "call", .str "zero", .str "same"]) = false from ei]
        refine iteF ?_
        have eg : goalV r p = .non := by
          unfold goalV goals
          revert hg hk
          cases r.k <;> simp
        rw [eg] at k
        exact k
def spLeads : Sp := fun vs H Q _ => ∃ (p : Int) (t b n : Addr) (r : Row), vs = [.int p, .ref t] ∧ RowT H t b n r ∧ Ok r ∧ ∀ (H' : Hp) (l : Addr), Same H H' → H l = none → H' l = some (.lst (il (leads r p))) → Q (.ref l) H'
theorem goals_cases (r : Row) (p : Int) : goals r p = [] ∨ ∃ g, goals r p = [g] := by
  unfold goals
  cases r.k <;> simp
theorem ok_leads_of (D : DefAt K mg "leads_of" sD_leads_of) (T : Txt w K mg) (c_row_size : Cal P w K mg base 1 "row_size" spSize []) (c_goal_of : Cal P w K mg base 2 "goal_of" spGoal []) : Cal P w K mg base 3 "leads_of" spLeads [] := by
  refine cal_of D sc_leads_of (fun _ _ _ _ _ _ us hl => match us, hl with | [_, _], _ => rfl) (fun vs H Q E h => ?_) (fun cdv A outer s H vs Q E hr h => ?_)
  · obtain ⟨p, t, b, n, r, rfl, _⟩ := h
    rfl
  · obtain ⟨p, t, b, n, r, rfl, ⟨h1, h2, h3⟩, ho, k⟩ := h
    refine ⟨_, (pss_cons (ps_set (i := 2) sc_leads_of.nd rfl (Or.inl rfl) (pe_c c_goal_of hr (by decide) (by rfl) (pa_cons (pv 0) (pa_cons (pv 1) pa_nil))))
  (pss_cut (ps_set (i := 3) sc_leads_of.nd rfl (Or.inl rfl) (pe_ifExp (pt_cmpR op_isN (pv 2) pe_non (nomark _)) (pe_lst pa_nil) (pe_lst (pa_cons (pv 2) pa_nil))))
  (pss_cut (ps_if (pt_cmpR op_notIn_seq (pe_ix ix_tup (pv 1) pe_int (fun _ _ => rfl)) (pe_gR (by rfl) T.g_NOT_BEHIND) (by rfl))
   (pss_one (ps_expr (pe_bm PySem.F.plainAttrs_list PySem.F.slot_list_append PySem.F.type_list_append mt_append (pv 3) (pa_cons (pe_op op_add (pv 0) (pe_c c_row_size hr (by decide) (by rfl) (pa_cons (pe_ix ix_tup (pv 1) pe_int (fun _ _ => rfl)) pa_nil))) pa_nil))))
   pss_nil)
  (pss_one (ps_ret (pv 3)))))), ?_⟩
    refine ⟨_, rfl, _, rfl, p, t, b, n, r, rfl, ⟨h1, h2, h3⟩, ho, ?_⟩
    refine ⟨fun σ' H' => ∃ l : Addr, σ' = [some (.int p), some (.ref t), some (goalV r p), some (.ref l)] ∧ H l = none ∧ H' = upd H l (.lst (il (goals r p))), ?_, ?_⟩
    · refine ⟨_, rfl, rfl, _, rfl, ?_⟩
      rcases goals_cases r p with e | ⟨g, e⟩
      · have eg : goalV r p = .non := by
          unfold goalV
          rw [e]
        rw [eg]
        refine iteT ⟨Nat.zero_le _, fun l hl => ⟨l, rfl, hl, ?_⟩⟩
        rw [e]
        rfl
      · have eg : goalV r p = .int g := by
          unfold goalV
          rw [e]
        rw [eg]
        refine iteF ⟨_, rfl, (by show 1 ≤ sizeLine; decide), fun l hl => ⟨l, rfl, hl, ?_⟩⟩
        rw [e]
        rfl
    · rintro σ' H' ⟨l, rfl, hl, rfl⟩
      have h1' := Same.new (o := .lst (il (goals r p))) hl _ _ h1
      refine ⟨fun σ' H' => σ' = [some (.int p), some (.ref t), some (goalV r p), some (.ref l)] ∧ H' = upd H l (.lst (il (leads r p))), ?_, ?_⟩
      · refine ⟨_, rfl, t, _, _, _, rfl, rfl, SqT.of h1', atI_nat (j := 0) rfl, _, _, rfl, .inr (T.t_NOT_BEHIND _), rfl, rfl, _, rfl, ?_⟩
        by_cases hn : r.k = .stop ∨ r.k = .back ∨ r.k = .jump ∨ r.k = .skip
        · have ei : inV (V.str r.k.str) [.str "stop", .str "back", .str "jump", .str "skip"] = true := by
            rcases hn with e | e | e | e <;> rw [e] <;> decide +kernel
          rw [show (if (true : Bool) = true then !inV (V.str r.k.str) [.str "stop", .str "back", .str "jump", .str "skip"] else inV (V.str r.k.str) [.str "stop", .str "back", .str "jump", .str "skip"]) = false from by rw [ei]; rfl]
          refine iteF ⟨rfl, ?_⟩
          have eo : onward r p = [] := by
            unfold onward
            rcases hn with e | e | e | e <;> rw [e]
          unfold leads
          rw [eo, List.append_nil]
        · have ei : inV (V.str r.k.str) [.str "stop", .str "back", .str "jump", .str "skip"] = false := by
            revert hn
            cases r.k <;> decide +kernel
          rw [show (if (true : Bool) = true then !inV (V.str r.k.str) [.str "stop", .str "back", .str "jump", .str "skip"] else inV (V.str r.k.str) [.str "stop", .str "back", .str "jump", .str "skip"]) = true from by rw [ei]; rfl]
          refine iteT ⟨_, rfl, .inl ⟨rfl, _, SqL.of upd_same⟩, _, rfl, _, rfl, t, _, _, _, rfl, rfl, SqT.of h1', atI_nat (j := 0) rfl, r.k, rfl, _, _, rfl, rfl, l, _, _, rfl, rfl, upd_same, ?_, rfl, ?_⟩
          · have hg : (goals r p).length ≤ 1 := by
              rcases goals_cases r p with e | ⟨g, e⟩ <;> rw [e] <;> simp
            rw [List.length_map]
            exact Nat.lt_of_le_of_lt hg (by decide)
          · have eo : onward r p = [p + ((rSize r.k : Nat) : Int)] := by
              unfold onward
              rw [ho.sz]
              revert hn
              cases r.k <;> simp
            unfold leads
            rw [upd_upd, eo, il_app]
      · rintro σ' H' ⟨rfl, rfl⟩
        exact ⟨_, rfl, k _ l (Same.new hl) hl upd_same⟩
end
end Rs
namespace Rs
open PySem PySem.Spec PyProof.Rows L2 C8
/-- the addresses of a walk: the object, its dict, rows, homes, apart -/
structure Wd where
  x : Addr
  dx : Addr
  r : Addr
  h : Addr
  a : Addr
def wf (A : Wd) : List (Str × V) := [("rows", .ref A.r), ("homes", .ref A.h), ("apart", .ref A.a)]
def RKV (H : Hp) (off : List Addr) (kvs : List (L2.Key × V)) (rows : List (Int × Row)) : Prop := kvs.length = rows.length ∧ ∀ (i : Nat) (kv : L2.Key × V) (e : Int × Row), kvs[i]? = some kv → rows[i]? = some e → ∃ t b n, kv = (Sum.inl e.1, .ref t) ∧ RowT H t b n e.2 ∧ b ∉ off ∧ n ∉ off
def homeOf (rows : List (Int × Row)) (q : Int) : Option V := (rows.find? fun e => decide (e.1 ≤ q ∧ q < e.1 + e.2.size)).map fun e => V.int e.1
/-- a dict with the pairs of a list, each once -/
def ApK (kvs : List (List L2.Key × V)) (ap : List Pt) : Prop := ∃ ps : List Pt, kvs.map (·.1) = ps.map Rg.pk ∧ ps.Nodup ∧ (∀ e, e ∈ ps ↔ e ∈ ap) ∧ ps.length ≤ ap.length
theorem pks_of {kvs : List (List L2.Key × V)} {ps : List Pt} (h : kvs.map (·.1) = ps.map Rg.pk) (k : Pt) : (valV kvs (Rg.pk k)).isSome = decide (k ∈ ps) := by
  induction kvs generalizing ps with
  | nil =>
    cases ps with
    | nil => rfl
    | cons a r => cases h
  | cons a r ih =>
    cases ps with
    | nil => cases h
    | cons b t =>
      rw [List.map_cons, List.map_cons] at h
      obtain ⟨h1, h2⟩ := List.cons.inj h
      by_cases q : a.1 = Rg.pk k
      · have e : b = k := Rg.pk_inj (h1.symm.trans q)
        rw [valV_pos q, decide_eq_true (by rw [e]; exact List.mem_cons_self)]
        rfl
      · have n : k ≠ b := fun z => q (by rw [h1, z])
        rw [valV_neg q, ih h2]
        exact decide_eq_decide.mpr ⟨fun z => List.mem_cons_of_mem _ z, fun z => (List.mem_cons.mp z).resolve_left n⟩
theorem ApK.put {kvs : List (List L2.Key × V)} {ap : List Pt} (h : ApK kvs ap) (k : Pt) (v : V) : ApK (putK kvs (Rg.pk k) v) (ap ++ [k]) := by
  obtain ⟨ps, h1, h2, h3, h4⟩ := h
  have key := pks_of h1 k
  by_cases q : k ∈ ps
  · rw [decide_eq_true q] at key
    refine ⟨ps, ?_, h2, fun e => ?_, by rw [List.length_append]; omega⟩
    · rw [← h1]
      unfold putK
      rw [valV_any, key, if_pos rfl, List.map_map]
      refine List.map_congr_left fun kv _ => ?_
      show (if kv.1 = Rg.pk k then (kv.1, v) else kv).1 = kv.1
      split <;> rfl
    · rw [h3, List.mem_append, List.mem_singleton]
      exact ⟨.inl, fun z => z.elim (fun y => y) (fun y => by rw [y]; exact (h3 k).mp q)⟩
  · rw [decide_eq_false q] at key
    have en : valV kvs (Rg.pk k) = none := by
      cases e : valV kvs (Rg.pk k) with
      | none => rfl
      | some v =>
        rw [e] at key
        cases key
    rw [putK_new _ en]
    refine ⟨ps ++ [k], ?_, ?_, fun e => ?_, by rw [List.length_append, List.length_append]; simp; omega⟩
    · rw [List.map_append, List.map_append, h1]
      rfl
    · rw [List.nodup_append]
      exact ⟨h2, List.nodup_cons.mpr ⟨(by simp), List.nodup_nil⟩, fun a ha b hb z => q (by rw [← List.mem_singleton.mp hb, ← z]; exact ha)⟩
    · rw [List.mem_append, List.mem_append, h3]
structure WAt (C : Addr) (H : Hp) (A : Wd) (off : List Addr) (rows : List (Int × Row)) (ap : List Pt) : Prop where
  x : H A.x = some (.ins C A.dx (wf A))
  r : ∃ kvs, H A.r = some (.dK kvs) ∧ RKV H off kvs rows
  h : ∃ hv, H A.h = some (.dK hv) ∧ hv.length ≤ 3 * rows.length ∧ ∀ q, valV hv (Sum.inl q) = homeOf rows q
  a : ∃ kvs, H A.a = some (.dT kvs) ∧ ApK kvs ap
  ne : A.r ≠ A.h
  ma : A.a ∈ off
def Keep (A : Wd) (H H' : Hp) : Prop := ∀ q o, H q = some o → q ≠ A.r → q ≠ A.h → q ≠ A.a → H' q = some o
theorem Keep.refl (A : Wd) (H : Hp) : Keep A H H := fun _ _ e _ _ _ => e
theorem Keep.trans {A : Wd} {H H1 H2 : Hp} (a : Keep A H H1) (b : Keep A H1 H2) : Keep A H H2 := fun q o e n1 n2 n3 => b q o (a q o e n1 n2 n3) n1 n2 n3
theorem Keep.same {A : Wd} {H H' : Hp} (s : Same H H') : Keep A H H' := fun q o e _ _ _ => s q o e
theorem RowT.mono {H H' : Hp} {t b n : Addr} {r : Row} (h : RowT H t b n r) (s : Same H H') : RowT H' t b n r := ⟨s _ _ h.1, s _ _ h.2.1, s _ _ h.2.2⟩
theorem RKV.mono {H H' : Hp} {off : List Addr} {kvs : List (L2.Key × V)} {rows : List (Int × Row)} (h : RKV H off kvs rows) (s : Same H H') : RKV H' off kvs rows :=
  ⟨h.1, fun i kv e h1 h2 => by
    obtain ⟨t, b, n, e1, e2, e3⟩ := h.2 i kv e h1 h2
    exact ⟨t, b, n, e1, e2.mono s, e3⟩⟩
theorem PrsAt_mono {H H' : Hp} {ts : List Addr} {L : List Pt} (h : Rg.PrsAt H ts L) (s : ∀ q xs, H q = some (.tup xs) → H' q = some (.tup xs)) : Rg.PrsAt H' ts L := ⟨h.1, fun i t e h1 h2 => s _ _ (h.2 i t e h1 h2)⟩
theorem WAt.mono {C : Addr} {H H' : Hp} {A : Wd} {off : List Addr} {rows : List (Int × Row)} {ap : List Pt} (h : WAt C H A off rows ap) (s : Same H H') : WAt C H' A off rows ap := by
  obtain ⟨kvs, r1, r2⟩ := h.r
  obtain ⟨hv, h1, h2⟩ := h.h
  obtain ⟨ts, a1, a2⟩ := h.a
  exact ⟨s _ _ h.x, ⟨kvs, s _ _ r1, r2.mono s⟩, ⟨hv, s _ _ h1, h2⟩, ⟨ts, s _ _ a1, a2⟩, h.ne, h.ma⟩
/-- with no row yet anything may be kept off -/
theorem WAt.with {C : Addr} {H : Hp} {A : Wd} {off off' : List Addr} {ap : List Pt} (h : WAt C H A off [] ap) (m : A.a ∈ off') : WAt C H A off' [] ap := by
  obtain ⟨kvs, r1, r2⟩ := h.r
  exact ⟨h.x, ⟨kvs, r1, r2.1, fun i kv e _ h2 => by cases h2⟩, h.h, h.a, h.ne, m⟩
theorem WAt.less {C : Addr} {H : Hp} {A : Wd} {off off' : List Addr} {rows : List (Int × Row)} {ap : List Pt} (h : WAt C H A off rows ap) (sub : ∀ q ∈ off', q ∈ off) (m : A.a ∈ off') : WAt C H A off' rows ap := by
  obtain ⟨kvs, r1, r2⟩ := h.r
  refine ⟨h.x, ⟨kvs, r1, r2.1, fun i kv e h1 h2 => ?_⟩, h.h, h.a, h.ne, m⟩
  obtain ⟨t, b, n, e1, e2, e5, e6⟩ := r2.2 i kv e h1 h2
  exact ⟨t, b, n, e1, e2, fun z => e5 (sub _ z), fun z => e6 (sub _ z)⟩
/-- a store to what is kept off -/
theorem WAt.put {C : Addr} {H H' : Hp} {A : Wd} {off : List Addr} {rows : List (Int × Row)} {ap : List Pt} {l : Addr} {xs : List V} (h : WAt C H A off rows ap) (hl : H l = some (.lst xs)) (ml : l ∈ off) (na : l ≠ A.a) (s : ∀ q u, H q = some u → q ≠ l → H' q = some u) : WAt C H' A off rows ap := by
  obtain ⟨kvs, r1, r2⟩ := h.r
  obtain ⟨hv, h1, h2⟩ := h.h
  obtain ⟨ts, a1, a2⟩ := h.a
  refine ⟨s _ _ h.x (ne_of h.x hl (fun z => by cases z)), ⟨kvs, s _ _ r1 (ne_of r1 hl (fun z => by cases z)), r2.1, fun i kv e k1 k2 => ?_⟩, ⟨hv, s _ _ h1 (ne_of h1 hl (fun z => by cases z)), h2⟩, ⟨ts, s _ _ a1 (ne_of a1 hl (fun z => by cases z)), a2⟩, h.ne, h.ma⟩
  obtain ⟨t, b, n, e1, ⟨e2, e3, e4⟩, e5, e6⟩ := r2.2 i kv e k1 k2
  exact ⟨t, b, n, e1, ⟨s _ _ e2 (ne_of e2 hl (fun z => by cases z)), s _ _ e3 (fun z => e5 (z ▸ ml)), s _ _ e4 (fun z => e6 (z ▸ ml))⟩, e5, e6⟩
/-- all that a store to rows, homes or apart leaves -/
theorem RKV.keep {H H' : Hp} {A : Wd} {off : List Addr} (ma : A.a ∈ off) {kvs0 hv0 : List (L2.Key × V)} {kvs : List (L2.Key × V)} {rows : List (Int × Row)} (h : RKV H off kvs rows) (hr : H A.r = some (.dK kvs0)) (hh : H A.h = some (.dK hv0)) {as : List (List L2.Key × V)} (ha : H A.a = some (.dT as)) (s : Keep A H H') : RKV H' off kvs rows :=
  ⟨h.1, fun i kv e h1 h2 => by
    obtain ⟨t, b, n, e1, ⟨e2, e3, e4⟩, e5, e6⟩ := h.2 i kv e h1 h2
    have nn : ∀ {q : Addr} {o : HO}, H q = some o → (∀ z, o ≠ .dK z) → q ≠ A.r ∧ q ≠ A.h := fun e z => ⟨ne_of e hr (z _), ne_of e hh (z _)⟩
    have n1 := nn e2 (fun z y => by cases y)
    have n2 := nn e3 (fun z y => by cases y)
    have n3 := nn e4 (fun z y => by cases y)
    exact ⟨t, b, n, e1, ⟨s _ _ e2 n1.1 n1.2 (ne_of e2 ha (fun y => by cases y)), s _ _ e3 n2.1 n2.2 (fun z => e5 (z ▸ ma)), s _ _ e4 n3.1 n3.2 (fun z => e6 (z ▸ ma))⟩, e5, e6⟩⟩
theorem rkv_find {H : Hp} {off : List Addr} {p : Int} : ∀ {kvs : List (L2.Key × V)} {rows : List (Int × Row)}, RKV H off kvs rows → (valV kvs (Sum.inl p)).isSome = isRow rows p
  | [], [], _ => rfl
  | [], e :: r, h => by cases h.1
  | kv :: k, [], h => by cases h.1
  | kv :: k, e :: r, h => by
    obtain ⟨t, b, n, e1, _⟩ := h.2 0 kv e rfl rfl
    have ih := rkv_find (p := p) (kvs := k) (rows := r) ⟨by simpa using h.1, fun i x y h1 h2 => h.2 (i + 1) x y h1 h2⟩
    subst e1
    unfold isRow at ih ⊢
    rw [List.any_cons, ← ih]
    by_cases q : e.1 = p
    · rw [valV_pos (p := (Sum.inl e.1, V.ref t)) (by rw [q]), decide_eq_true q]
      rfl
    · rw [valV_neg (p := (Sum.inl e.1, V.ref t)) (fun z => q (Sum.inl.inj z)), decide_eq_false q]
      rfl
theorem home_covers (rows : List (Int × Row)) (q : Int) : (homeOf rows q).isSome = covers rows q := by
  unfold homeOf covers
  rw [Option.isSome_map, Bool.eq_iff_iff, List.find?_isSome, List.any_eq_true]
theorem any_congr' {l : List Nat} {f g : Nat → Bool} (h : ∀ i ∈ l, f i = g i) : l.any f = l.any g := by
  induction l with
  | nil => rfl
  | cons a r ih => rw [List.any_cons, List.any_cons, h a List.mem_cons_self, ih fun i hi => h i (List.mem_cons_of_mem _ hi)]
theorem any_hits {hv : List (L2.Key × V)} {rows : List (Int × Row)} (h : ∀ q, valV hv (Sum.inl q) = homeOf rows q) (p : Int) (n : Nat) {ks : List L2.Key} (hk : ks = (List.range n).map fun (i : Nat) => Sum.inl (p + (i : Int))) :
    (List.range (ks.map kV).length).any (Rg.inAt hv ks) = hits rows p n := by
  subst hk
  rw [List.length_map, List.length_map, List.length_range]
  unfold hits
  refine any_congr' fun i hi => ?_
  unfold Rg.inAt
  rw [List.getElem?_map, List.getElem?_range (List.mem_range.mp hi)]
  show (valV hv (Sum.inl (p + (i : Int)))).isSome = _
  rw [h, home_covers]
theorem hits_one (rows : List (Int × Row)) (p : Int) : hits rows p 1 = covers rows p := by
  unfold hits
  simp
theorem prs_snoc {H : Hp} {ts : List Addr} {L : List Pt} {t : Addr} {e : Pt} (h : Rg.PrsAt H ts L) (ht : H t = some (.tup [.int e.1, .int e.2])) : Rg.PrsAt H (ts ++ [t]) (L ++ [e]) := by
  refine ⟨by rw [List.length_append, List.length_append, h.1] <;> rfl, fun i u d a b => ?_⟩
  by_cases q : i < ts.length
  · rw [List.getElem?_append_left q] at a
    rw [List.getElem?_append_left (by rw [← h.1]; exact q)] at b
    exact h.2 i u d a b
  · rw [List.getElem?_append_right (by omega)] at a
    rw [List.getElem?_append_right (by rw [← h.1]; omega), ← h.1] at b
    cases e : i - ts.length with
    | zero =>
      rw [e] at a b
      cases a
      cases b
      exact ht
    | succ j =>
      rw [e] at a
      cases a
theorem rkv_snoc {H : Hp} {off : List Addr} {kvs : List (L2.Key × V)} {rows : List (Int × Row)} {p : Int} {t b n : Addr} {r : Row} (h : RKV H off kvs rows) (ht : RowT H t b n r) (nb : b ∉ off) (nn : n ∉ off) : RKV H off (kvs ++ [(Sum.inl p, .ref t)]) (rows ++ [(p, r)]) := by
  refine ⟨by rw [List.length_append, List.length_append, h.1] <;> rfl, fun i u d x y => ?_⟩
  by_cases q : i < kvs.length
  · rw [List.getElem?_append_left q] at x
    rw [List.getElem?_append_left (by rw [← h.1]; exact q)] at y
    exact h.2 i u d x y
  · rw [List.getElem?_append_right (by omega)] at x
    rw [List.getElem?_append_right (by rw [← h.1]; omega), ← h.1] at y
    cases e : i - kvs.length with
    | zero =>
      rw [e] at x y
      cases x
      cases y
      exact ⟨t, b, n, rfl, ht, nb, nn⟩
    | succ j =>
      rw [e] at x
      cases x
theorem home_snoc {rows : List (Int × Row)} {p : Int} {r : Row} (hn : hits rows p r.size = false) (q : Int) : homeOf (rows ++ [(p, r)]) q = if p ≤ q ∧ q < p + (r.size : Int) then some (.int p) else homeOf rows q := by
  have key : covers rows q = true → ¬ (p ≤ q ∧ q < p + (r.size : Int)) := fun c z => by
    have : hits rows p r.size = true := by
      unfold hits
      refine List.any_eq_true.mpr ⟨(q - p).toNat, List.mem_range.mpr (by omega), ?_⟩
      have e : p + (((q - p).toNat : Nat) : Int) = q := by omega
      rw [e]
      exact c
    rw [hn] at this
    cases this
  unfold homeOf
  rw [List.find?_append]
  cases e : rows.find? (fun e => decide (e.1 ≤ q ∧ q < e.1 + e.2.size)) with
  | some x =>
    have c : covers rows q = true := by
      rw [← home_covers]
      unfold homeOf
      rw [e]
      rfl
    rw [if_neg (key c)]
    rfl
  | none =>
    by_cases z : p ≤ q ∧ q < p + (r.size : Int)
    · rw [if_pos z]
      simp [List.find?_cons, z]
    · rw [if_neg z]
      simp only [Option.none_or, List.find?_cons]
      rw [decide_eq_false z]
      rfl
/-- the class -/
structure TxtW (K : PySem.W.Frag) (C : Addr) : Prop where
  cl : Cls K C
  rows : NoAttr K C "rows"
  homes : NoAttr K C "homes"
  apart : NoAttr K C "apart"
section
variable {P : Program} {w : World} {K : PySem.W.Frag} {mg : Str → Option Value} {base : Heap} {C : Addr}
def spInitW (C : Addr) : Sp := fun vs H Q _ => ∃ (x dx : Addr), vs = [.ref x] ∧ H x = some (.ins C dx []) ∧ ∀ (H' : Hp) (A : Wd), A.x = x → WAt C H' A [A.a] [] [] → H A.r = none → H A.h = none → H A.a = none → Pr x H H' → Q .non H'
theorem ok_Winit {f : Addr} {fd : FuncData} (F : FnP K "__init__" "Walk.__init__" sD_Walkinit f fd) (M' : TxtW K C) : FnOk P w K mg base L2.CX0 1 f fd ["self"] (spInitW C) := by
  refine fnok_of F sc_Walkinit (fun vs H Q E h => ?_) (fun cdv Ar outer s H vs Q E hr h => ?_)
  · obtain ⟨x, dx, rfl, _⟩ := h
    rfl
  · obtain ⟨x, dx, rfl, hx, k⟩ := h
    refine ⟨_, (pss_cons (ps_fld (pv 0) pe_dnewK rfl)
  (pss_cons (ps_fld (pv 0) pe_dnewK rfl)
  (pss_one (ps_fld (pv 0) pe_dnewT rfl)))), ?_⟩
    refine fun r hr1 => ⟨_, rfl, x, C, dx, [], rfl, (upd_ne (ne_of_none hx hr1)).trans hx, M'.cl, M'.rows, (by show 0 < 1000; decide), ?_⟩
    have nr : x ≠ r := ne_of_none hx hr1
    have x1 : upd (upd H r (.dK [])) x (.ins C dx (putF "rows" (.ref r) [])) x = some (.ins C dx [("rows", .ref r)]) := upd_same
    have r1 : upd (upd H r (.dK [])) x (.ins C dx (putF "rows" (.ref r) [])) r = some (.dK []) := (upd_ne nr.symm).trans upd_same
    have p1 : Pr x H (upd (upd H r (.dK [])) x (.ins C dx (putF "rows" (.ref r) []))) := (Pr.add (fun q o e _ => e) hr1).at
    generalize upd (upd H r (.dK [])) x (.ins C dx (putF "rows" (.ref r) [])) = H1 at x1 r1 p1 ⊢
    refine fun h hh1 => ⟨_, rfl, x, C, dx, _, rfl, (upd_ne (ne_of_none x1 hh1)).trans x1, M'.cl, M'.homes, (by show 1 < 1000; decide), ?_⟩
    have nh : x ≠ h := ne_of_none x1 hh1
    have nrh : r ≠ h := ne_of_none r1 hh1
    have x2 : upd (upd H1 h (.dK [])) x (.ins C dx (putF "homes" (.ref h) [("rows", .ref r)])) x = some (.ins C dx [("rows", .ref r), ("homes", .ref h)]) := upd_same
    have r2 : upd (upd H1 h (.dK [])) x (.ins C dx (putF "homes" (.ref h) [("rows", .ref r)])) r = some (.dK []) := (upd_ne nr.symm).trans ((upd_ne nrh).trans r1)
    have h2 : upd (upd H1 h (.dK [])) x (.ins C dx (putF "homes" (.ref h) [("rows", .ref r)])) h = some (.dK []) := (upd_ne nh.symm).trans upd_same
    have p2 : Pr x H (upd (upd H1 h (.dK [])) x (.ins C dx (putF "homes" (.ref h) [("rows", .ref r)]))) := (p1.add hh1).at
    have zh : H h = none := p1.fresh x1 hh1
    generalize upd (upd H1 h (.dK [])) x (.ins C dx (putF "homes" (.ref h) [("rows", .ref r)])) = H2 at x2 r2 h2 p2 ⊢
    refine fun a ha1 => ⟨_, rfl, x, C, dx, _, rfl, (upd_ne (ne_of_none x2 ha1)).trans x2, M'.cl, M'.apart, (by show 2 < 1000; decide), ?_⟩
    have na : x ≠ a := ne_of_none x2 ha1
    have nra : r ≠ a := ne_of_none r2 ha1
    have nha : h ≠ a := ne_of_none h2 ha1
    have za : H a = none := p2.fresh x2 ha1
    refine k _ ⟨x, dx, r, h, a⟩ rfl ⟨upd_same, ⟨[], (upd_ne nr.symm).trans ((upd_ne nra).trans r2), rfl, fun i kv e h1 => by cases h1⟩, ⟨[], (upd_ne nh.symm).trans ((upd_ne nha).trans h2), Nat.zero_le _, fun q => rfl⟩, ⟨[], (upd_ne na.symm).trans upd_same, [], rfl, List.nodup_nil, fun _ => Iff.rfl, Nat.le_refl _⟩, nrh, List.mem_singleton.mpr rfl⟩ hr1 zh za ((p2.add ha1).at)
end
end Rs
namespace Rs
open PySem PySem.Spec PyProof.Rows L2 C8
section
variable {P : Program} {w : World} {K : PySem.W.Frag} {mg : Str → Option Value} {base : Heap} {C : Addr}
theorem rgV_il (p : Int) (m : Nat) : rgV p (p + (m : Int)) = il ((List.range m).map fun (i : Nat) => p + (i : Int)) := by
  unfold rgV il
  rw [show (p + (m : Int) - p).toNat = m by omega, List.map_map]
  rfl
/-- what come leaves: the walk behind the look, a list of where the place leads -/
def spLook (C : Addr) (Tb : Addr) : Sp := fun vs H Q _ => ∃ (A : Wd) (off : List Addr) (rows : List (Int × Row)) (ap : List Pt) (pw : Addr) (ws : List Int) (p o : Int), vs = [.ref A.x, .ref pw, .int p, .int o] ∧ WAt C H A off rows ap ∧ (∀ q ∈ off, H q ≠ none) ∧ H pw = some (.lst (il ws)) ∧ pw ≠ A.a ∧ ws.length ≤ 256 ∧ Bytes ws ∧
  rows.length ≤ 256 ∧ ap.length ≤ 10000 ∧ H Tb = some (Rg.TabO Tb) ∧
  ∀ (H' : Hp) (l : Addr), WAt C H' A off (lookP ws ⟨rows, [], ap⟩ (p, o)).rows (lookP ws ⟨rows, [], ap⟩ (p, o)).apart → Keep A H H' → H l = none → H' l = some (.lst (il ((lookP ws ⟨rows, [], ap⟩ (p, o)).wait.map (·.1)))) → Q (.ref l) H'
theorem ok_come (D : DefAt K mg "come" sD_come) (T : Txt w K mg) (M' : TxtW K C) (TB : Rg.TabB base mg (He.codeOf K ("come", none)) (tabAt K "come")) (c_row_size : Cal P w K mg base 1 "row_size" spSize []) (c_row_at : Cal P w K mg base 2 "row_at" (spRowAt K) []) (c_leads_of : Cal P w K mg base 3 "leads_of" spLeads []) :
    Cal P w K mg base 4 "come" (spLook C (tabAt K "come")) [] := by
  refine calT_of D sc_come (fun _ _ _ _ _ _ us hl => match us, hl with | [_, _, _, _], _ => rfl) (fun vs H Q E h => ?_) (fun Ar outer s H vs Q E hr h => ?_)
  · obtain ⟨A, off, rows, ap, pw, ws, p, o, rfl, _⟩ := h
    rfl
  · obtain ⟨A, off, rows, ap, pw, ws, p, o, rfl, hW, hoff, hpw, npa, hl, hb, hrl, hal, hT, k⟩ := h
    have hcd : (cxOf L2.CX0 P w K mg base N_come "come" (defScope sD_come) (He.ga K "come") (.ref (He.codeOf K ("come", none))) Ar outer s H E).nox.env.code = .ref (He.codeOf K ("come", none)) := rfl
    refine ⟨_, (pss_cut (ps_if (PW.pt (pw_or (pt_cmp (pc_din (hu_of hr) (pv 2) (pe_fld (pv 0) rfl))) (pw_or1 (pt_not (pt_chain op_le op_lt pe_int (pv 2) (pe_callB call_len_seq (by rfl) T.free_len (by decide +kernel) (pa_cons (pv 1) pa_nil)))))))
   (pss_one (ps_ret (pe_lst pa_nil)))
   pss_nil)
  (pss_cut (ps_set (i := 4) sc_come.nd rfl (Or.inl rfl) (pe_c c_row_at hr (by decide) (by rfl) (pa_cons (pv 1) (pa_cons (pv 2) pa_nil))))
  (pss_cut (ps_set (i := 5) sc_come.nd rfl (Or.inl rfl) (pe_listRg rfl (by rfl) T.free_list (prg_2 (by rfl) T.free_range (pv 2) (pe_op op_add (pv 2) (pe_ifExp (pt_cmpR op_isN (pv 4) pe_non (nomark _)) pe_int (pe_c c_row_size hr (by decide) (by rfl) (pa_cons (pe_ix ix_tup (pv 4) pe_int (fun _ _ => rfl)) pa_nil)))))))
  (pss_cons (ps_if (pt_val (Rg.pe_anyL hr (by rfl) T.free_any TB hcd (Rg.genT_by (sc := defScope sD_come) (by decide +kernel)) (pv 5) (fun _ => rfl)))
   (pss_cons (ps_dput (hu_of hr) (pe_fld (pv 0) rfl) (pe_tup (pa_cons (pv 3) (pa_cons (pv 2) pa_nil))) pe_bl rfl)
  (pss_one (ps_ret (pe_lst pa_nil))))
   pss_nil)
  (pss_cons (ps_if (pt_cmpR op_isN (pv 4) pe_non (nomark _))
   (pss_one (ps_ret (pe_lst pa_nil)))
   pss_nil)
  (pss_cons (ps_dput (hu_of hr) (pe_fld (pv 0) rfl) (pv 2) (pv 4) rfl)
  (pss_cut (ps_for PassesOwn.never rfl (pi_list (pv 5)) (pg_name (i := 6) sc_come.nd rfl (Or.inl rfl))
   (pss_one (ps_dput (hu_of hr) (pe_fld (pv 0) rfl) (pv 6) (pv 2) rfl)))
  (pss_one (ps_ret (pe_c c_leads_of hr (by decide) (by rfl) (pa_cons (pv 2) (pa_cons (pv 4) pa_nil)))))))))))), ?_⟩
    obtain ⟨kvs, hr1, hr2⟩ := hW.r
    obtain ⟨hv, hh1, hh2, hh3⟩ := hW.h
    obtain ⟨ts, ha1, ha2⟩ := hW.a
    -- out of the words, or a row already
    refine ⟨fun σ' H' => σ' = start N_come [.ref A.x, .ref pw, .int p, .int o] ∧ H = H' ∧ ¬ (¬ (0 ≤ p ∧ p < (ws.length : Int)) ∨ isRow rows p = true), ?_, ?_⟩
    · have out : (¬ (0 ≤ p ∧ p < (ws.length : Int)) ∨ isRow rows p = true) → ∀ l, H l = none → Q (.ref l) (upd H l (.lst [])) := fun c l hl => by
        have e : lookP ws ⟨rows, [], ap⟩ (p, o) = ⟨rows, [], ap⟩ := if_pos c
        rw [e] at k
        exact k _ l (hW.mono (Same.new hl)) (Keep.same (Same.new hl)) hl upd_same
      refine ⟨_, rfl, _, rfl, A.x, C, A.dx, wf A, _, rfl, hW.x, M'.cl, M'.rows, rfl, A.r, _, rfl, DGet.k (k := Sum.inl p) hr1, _, rfl, ?_⟩
      rw [rkv_find hr2]
      by_cases c1 : isRow rows p = true
      · rw [c1]
        exact iteT (iteT ⟨Nat.zero_le _, fun l hl => out (.inr c1) l hl⟩)
      · rw [Bool.eq_false_iff.mpr c1]
        refine iteF ?_
        refine ⟨_, rfl, _, _, rfl, rfl, _, rfl, ?_⟩
        by_cases h1 : 0 ≤ p
        · rw [decide_eq_true h1]
          refine iteT ⟨_, rfl, pw, _, rfl, .inl (SqL.of hpw), _, _, rfl, rfl, _, rfl, ?_⟩
          rw [List.length_map]
          by_cases h2 : p < (ws.length : Int)
          · rw [decide_eq_true h2]
            exact iteF ⟨rfl, rfl, fun z => z.elim (fun y => y ⟨h1, h2⟩) (fun y => by cases y)⟩
          · rw [decide_eq_false h2]
            exact iteT ⟨Nat.zero_le _, fun l hl => out (.inl fun y => h2 y.2) l hl⟩
        · rw [decide_eq_false h1]
          exact iteF ⟨_, rfl, iteT ⟨Nat.zero_le _, fun l hl => out (.inl fun y => h1 y.1) l hl⟩⟩
    · rintro σ' H' ⟨rfl, rfl, hc⟩
      have hin : 0 ≤ p ∧ p < (ws.length : Int) := Decidable.byContradiction fun z => hc (.inl z)
      have hnr : isRow rows p = false := Bool.eq_false_iff.mpr fun z => hc (.inr z)
      -- the row that lies there
      refine ⟨fun σ' H1 => ∃ rv : V, σ' = [some (.ref A.x), some (.ref pw), some (.int p), some (.int o), some rv, none, none] ∧ Same H H1 ∧ ((rowAt ws p = none ∧ rv = .non) ∨ ∃ r t b n, rowAt ws p = some r ∧ rv = .ref t ∧ RowT H1 t b n r ∧ H t = none ∧ H b = none ∧ H n = none), ?_, ?_⟩
      · exact ⟨_, rfl, _, rfl, pw, ws, p, rfl, SqL.of hpw, hl, fun e => ⟨_, rfl, Same.refl H, .inl ⟨e, rfl⟩⟩, fun r er H1 t b n s1 zt zb zn q1 q2 q3 => ⟨_, rfl, s1, .inr ⟨r, t, b, n, er, rfl, ⟨q1, q2, q3⟩, zt, zb, zn⟩⟩⟩
      rintro σ' H1 ⟨rv, rfl, s1, hrow⟩
      refine ⟨fun σ' H2 => ∃ (lp : Addr) (m : Nat), σ' = [some (.ref A.x), some (.ref pw), some (.int p), some (.int o), some rv, some (.ref lp), none] ∧ Same H1 H2 ∧ H1 lp = none ∧ H2 lp = some (.lst (il ((List.range m).map fun (i : Nat) => p + (i : Int)))) ∧ m ≤ 3 ∧
        ((rowAt ws p = none ∧ rv = .non ∧ m = 1) ∨ ∃ r t b n, rowAt ws p = some r ∧ rv = .ref t ∧ RowT H1 t b n r ∧ H t = none ∧ H b = none ∧ H n = none ∧ m = r.size), ?_, ?_⟩
      · refine ⟨_, rfl, _, rfl, _, rfl, rfl, _, rfl, ?_⟩
        rcases hrow with ⟨e, rfl⟩ | ⟨r, t, b, n, e, rfl, q, zt, zb, zn⟩
        · refine iteT ⟨_, _, rfl, rfl, _, _, rfl, rfl, ?_, fun lp hlp => ?_⟩
          · exact RgOk.of_le hin.1 (by omega) (by omega) (by omega)
          · exact ⟨lp, 1, rfl, Same.new hlp, hlp, by rw [← rgV_il]; exact upd_same, by decide, .inl ⟨e, rfl, rfl⟩⟩
        · refine iteF ⟨_, rfl, t, _, _, _, rfl, rfl, SqT.of q.1, atI_nat (j := 0) rfl, r.k, rfl, _, _, rfl, rfl, _, _, rfl, rfl, ?_, fun lp hlp => ?_⟩
          · have : rSize r.k ≤ 3 := by cases r.k <;> decide
            exact RgOk.of_le hin.1 (by omega) (by omega) (by omega)
          · have h3 : rSize r.k ≤ 3 := by cases r.k <;> decide
            refine ⟨lp, rSize r.k, rfl, Same.new hlp, hlp, by rw [← rgV_il]; exact upd_same, h3, .inr ⟨r, t, b, n, e, rfl, q, zt, zb, zn, (rowAt_ok hb e).sz.symm⟩⟩
      rintro σ' H2 ⟨lp, m, rfl, s2, zlp, hlp, hm3, hcase⟩
      have s02 := s1.trans s2
      have hW2 := hW.mono s02
      have hh2' := s02 _ _ hh1
      refine ⟨_, rfl, lp, _, _, rfl, SqL.of hlp, s02 _ _ hT, Rg.elt_inFld (j := 0) (a := A.x) (C := C) (dx := A.dx) (d := A.h) (fs := wf A) (kvs := hv) (ks := ((List.range m).map fun (i : Nat) => p + (i : Int)).map Sum.inl) rfl rfl (by decide) rfl rfl rfl rfl hW2.x M'.cl M'.homes rfl hh2' ?_ (fun _ _ => rfl), ?_⟩
      · rw [List.map_map]
        rfl
      refine ⟨_, rfl, ?_⟩
      have eh := any_hits hh3 p m (ks := ((List.range m).map fun (i : Nat) => p + (i : Int)).map Sum.inl) (by rw [List.map_map]; rfl)
      rw [show (((List.range m).map fun (i : Nat) => p + (i : Int)).map (Sum.inl : Int → L2.Key)).map kV = il ((List.range m).map fun (i : Nat) => p + (i : Int)) from by rw [List.map_map]; rfl] at eh
      rw [eh]
      have hr2' := s02 _ _ hr1
      have ha2' := s02 _ _ ha1
      have nra : A.r ≠ A.a := ne_of hr1 ha1 (fun z => by cases z)
      have nha : A.h ≠ A.a := ne_of hh1 ha1 (fun z => by cases z)
      have nxr : A.x ≠ A.r := ne_of hW.x hr1 (fun z => by cases z)
      have nxh : A.x ≠ A.h := ne_of hW.x hh1 (fun z => by cases z)
      have nxa : A.x ≠ A.a := ne_of hW.x ha1 (fun z => by cases z)
      -- a store to a.apart
      by_cases hit : hits rows p m = true
      · rw [hit]
        refine iteT ⟨_, rfl, A.x, C, A.dx, wf A, _, rfl, hW2.x, M'.cl, M'.apart, rfl, _, rfl, _, rfl, (by show 2 ≤ sizeLine; decide), fun t ht => ?_⟩
        have s3 := Same.new (o := .tup [V.int o, V.int p]) ht
        have nat : A.a ≠ t := ne_of_none ha2' ht
        refine ⟨A.a, _, rfl, DPut.t (k := Rg.pk (o, p)) (s3 _ _ ha2') upd_same ?_, Nat.zero_le _, fun l hl => ?_⟩
        · obtain ⟨ps, g1, _, _, g4⟩ := ha2
          have g5 : ts.length = ps.length := by
            have := congrArg List.length g1
            rwa [List.length_map, List.length_map] at this
          exact Nat.lt_of_le_of_lt (show ts.length ≤ 10000 by omega) (by decide)
        have ea : lookP ws ⟨rows, [], ap⟩ (p, o) = ⟨rows, [], ap ++ [(o, p)]⟩ := by
          unfold lookP
          rw [if_neg hc]
          rcases hcase with ⟨e, _, rfl⟩ | ⟨r, _, _, _, e, _, _, _, _, _, rfl⟩
          · rw [e]
            rw [hits_one] at hit
            exact if_pos hit
          · rw [e]
            exact if_pos hit
        rw [ea] at k
        have zl : H l = none := by
          have h3 : upd H2 t (.tup [V.int o, V.int p]) l = none := by
            by_cases q : l = A.a
            · rw [q, upd_same] at hl
              cases hl
            · rw [upd_ne q] at hl
              exact hl
          exact (s02.trans s3).free h3
        have nal : A.a ≠ l := ne_of_none upd_same hl
        have kp : Keep A H (upd (upd (upd H2 t (.tup [V.int o, V.int p])) A.a (.dT (putK ts (Rg.pk (o, p)) (.bl true)))) l (.lst [])) := fun q u e n1 n2 n3 => by
          rw [upd_ne (ne_of_none e zl), upd_ne n3]
          exact s3 _ _ (s02 _ _ e)
        refine k _ l ⟨?_, ⟨kvs, ?_, hr2.keep hW.ma hr1 hh1 ha1 kp⟩, ⟨hv, ?_, hh2, hh3⟩, ⟨putK ts (Rg.pk (o, p)) (.bl true), ?_, ha2.put (o, p) (.bl true)⟩, hW.ne, hW.ma⟩ kp zl upd_same
        · exact kp _ _ hW.x nxr nxh nxa
        · rw [upd_ne (ne_of_none hr1 zl), upd_ne nra]
          exact s3 _ _ hr2'
        · rw [upd_ne (ne_of_none hh1 zl), upd_ne nha]
          exact s3 _ _ hh2'
        · rw [upd_ne nal, upd_same]
      · rw [Bool.eq_false_iff.mpr hit]
        refine iteF ?_
        have hitf : hits rows p m = false := Bool.eq_false_iff.mpr hit
        refine ⟨_, rfl, rfl, _, rfl, ?_⟩
        rcases hcase with ⟨er, rfl, rfl⟩ | ⟨r, t, b, n, er, rfl, hrt, zt, zb, zn, rfl⟩
        · -- no row lies there
          refine iteT ⟨Nat.zero_le _, fun l hl => ?_⟩
          have ea : lookP ws ⟨rows, [], ap⟩ (p, o) = ⟨rows, [], ap⟩ := by
            unfold lookP
            rw [if_neg hc, er]
            rw [hits_one] at hit
            exact if_neg hit
          rw [ea] at k
          exact k _ l (hW2.mono (Same.new hl)) (Keep.same (s02.trans (Same.new hl))) (s02.free hl) upd_same
        · refine ite2 (fun q => absurd (of_decide_eq_true q) (by intro z; cases z)) (fun _ => ?_)
          have ea : lookP ws ⟨rows, [], ap⟩ (p, o) = ⟨rows ++ [(p, r)], [] ++ (leads r p).map (fun q => (q, p)), ap⟩ := by
            unfold lookP
            rw [if_neg hc, er]
            exact if_neg hit
          rw [ea] at k
          have ho := rowAt_ok hb er
          have hrt2 := hrt.mono s2
          have ek : putK kvs (Sum.inl p) (V.ref t) = kvs ++ [(Sum.inl p, .ref t)] := putK_new _ (by
            have := rkv_find (p := p) hr2
            rw [hnr] at this
            exact Option.isNone_iff_eq_none.mp (by cases q : valV kvs (Sum.inl p) with
              | none => rfl
              | some v =>
                rw [q] at this
                cases this))
          refine ⟨_, rfl, _, rfl, A.x, C, A.dx, wf A, _, rfl, hW2.x, M'.cl, M'.rows, rfl, _, rfl, A.r, _, rfl, DPut.k (k := Sum.inl p) hr2' ?_, ?_⟩
          · rw [hr2.1]
            exact Nat.lt_of_le_of_lt hrl (by decide)
          rw [ek]
          have x3 : upd H2 A.r (.dK (kvs ++ [(Sum.inl p, .ref t)])) A.x = some (.ins C A.dx (wf A)) := (upd_ne nxr).trans hW2.x
          have r3 : upd H2 A.r (.dK (kvs ++ [(Sum.inl p, .ref t)])) A.r = some (.dK (kvs ++ [(Sum.inl p, .ref t)])) := upd_same
          have h3 : upd H2 A.r (.dK (kvs ++ [(Sum.inl p, .ref t)])) A.h = some (.dK hv) := (upd_ne hW.ne.symm).trans hh2'
          have lp3 : upd H2 A.r (.dK (kvs ++ [(Sum.inl p, .ref t)])) lp = some (.lst (il ((List.range r.size).map fun (i : Nat) => p + (i : Int)))) := (upd_ne (ne_of hlp hr2' (fun z => by cases z))).trans hlp
          have k3 : ∀ q u, H2 q = some u → q ≠ A.r → upd H2 A.r (.dK (kvs ++ [(Sum.inl p, .ref t)])) q = some u := fun q u e n => (upd_ne n).trans e
          generalize upd H2 A.r (.dK (kvs ++ [(Sum.inl p, .ref t)])) = H3 at x3 r3 h3 lp3 k3 ⊢
          have nlh : lp ≠ A.h := ne_of hlp hh2' (fun z => by cases z)
          refine ⟨fun σ' H4 => ∃ (y : Option V) (hv4 : List (L2.Key × V)), σ' = [some (.ref A.x), some (.ref pw), some (.int p), some (.int o), some (.ref t), some (.ref lp), y] ∧ (∀ q u, H3 q = some u → q ≠ A.h → H4 q = some u) ∧ H4 A.h = some (.dK hv4) ∧ hv4.length ≤ hv.length + r.size ∧
            ∀ q, valV hv4 (Sum.inl q) = if p ≤ q ∧ q < p + (r.size : Int) then some (.int p) else homeOf rows q, ?_, ?_⟩
          · refine ⟨_, rfl, lp, rfl, ⟨_, SqL.of lp3⟩, for_list (K := K) (a := lp) (xs := il ((List.range r.size).map fun (i : Nat) => p + (i : Int))) (fun i σ H4 => ∃ (y : Option V) (hv4 : List (L2.Key × V)), σ = [some (.ref A.x), some (.ref pw), some (.int p), some (.int o), some (.ref t), some (.ref lp), y] ∧ (∀ q u, H3 q = some u → q ≠ A.h → H4 q = some u) ∧ H4 A.h = some (.dK hv4) ∧ hv4.length ≤ hv.length + i ∧
              ∀ q, valV hv4 (Sum.inl q) = if p ≤ q ∧ q < p + (i : Int) then some (.int p) else homeOf rows q) ⟨_, hv, rfl, fun _ _ e _ => e, h3, Nat.le_refl _, fun q => ?_⟩ (fun i σ H4 _ ⟨y, hv4, _, e, _⟩ => SqL.of (e _ _ lp3 nlh)) ?_ ?_⟩
            · rw [if_neg (by omega)]
              exact hh3 q
            · rintro i x σ H4 hx ⟨y, hv4, rfl, e4, hh4, hl4, hq4⟩
              obtain ⟨hi, rfl⟩ := ints_get hx
              rw [List.length_map, List.length_range] at hi
              have exi : ((List.range r.size).map fun (i : Nat) => p + (i : Int)).getD i 0 = p + (i : Int) := by
                rw [List.getD_eq_getElem?_getD, List.getElem?_map, List.getElem?_range hi]
                rfl
              rw [exi]
              refine ⟨_, rfl, _, rfl, A.x, C, A.dx, wf A, _, rfl, e4 _ _ x3 nxh, M'.cl, M'.homes, rfl, _, rfl, A.h, _, rfl, DPut.k (k := Sum.inl (p + (i : Int))) hh4 ?_, _, _, rfl, fun q u e z => ?_, upd_same, ?_, fun q => ?_⟩
              · have : hv4.length ≤ 3 * 256 + 3 := by omega
                exact Nat.lt_of_le_of_lt this (by decide)
              · rw [upd_ne z]
                exact e4 q u e z
              · have := length_putK hv4 (Sum.inl (p + (i : Int))) (V.int p)
                omega
              · rw [valV_put, hq4]
                by_cases q1 : q = p + (i : Int)
                · subst q1
                  rw [if_pos rfl, if_pos (by omega)]
                · rw [if_neg (fun z => q1 (Sum.inl.inj z))]
                  by_cases q2 : p ≤ q ∧ q < p + (i : Int)
                  · rw [if_pos q2, if_pos (by omega)]
                  · rw [if_neg q2, if_neg (by omega)]
            · rintro σ H4 ⟨y, hv4, rfl, e4, hh4, hl4, hq4⟩
              rw [List.length_map, List.length_map, List.length_range] at hl4
              rw [List.length_map, List.length_map, List.length_range] at hq4
              exact ⟨y, hv4, rfl, e4, hh4, hl4, hq4⟩
          · rintro σ' H4 ⟨y, hv4, rfl, e4, hh4, hl4, hq4⟩
            have up : ∀ q u, H2 q = some u → q ≠ A.r → q ≠ A.h → H4 q = some u := fun q u e n1 n2 => e4 q u (k3 q u e n1) n2
            have tr := ne_of hrt2.1 hr2' (fun z => by cases z)
            have th := ne_of hrt2.1 hh2' (fun z => by cases z)
            have br := ne_of hrt2.2.1 hr2' (fun z => by cases z)
            have bh := ne_of hrt2.2.1 hh2' (fun z => by cases z)
            have nr := ne_of hrt2.2.2 hr2' (fun z => by cases z)
            have nh := ne_of hrt2.2.2 hh2' (fun z => by cases z)
            have hrt4 : RowT H4 t b n r := ⟨up _ _ hrt2.1 tr th, up _ _ hrt2.2.1 br bh, up _ _ hrt2.2.2 nr nh⟩
            refine ⟨_, rfl, _, rfl, p, t, b, n, r, rfl, hrt4, ho, fun H5 l s5 zl hl5 => ?_⟩
            have kp : Keep A H H5 := fun q u e n1 n2 n3 => s5 _ _ (up q u (s02 _ _ e) n1 n2)
            have zlH : H l = none := by
              cases q : H l with
              | none => rfl
              | some u =>
                by_cases q1 : l = A.r
                · rw [q1] at zl
                  rw [e4 _ _ r3 hW.ne] at zl
                  cases zl
                · by_cases q2 : l = A.h
                  · rw [q2, hh4] at zl
                    cases zl
                  · rw [up l u (s02 _ _ q) q1 q2] at zl
                    cases zl
            refine k H5 l ⟨kp _ _ hW.x nxr nxh nxa, ⟨_, s5 _ _ (e4 _ _ r3 hW.ne), rkv_snoc (hr2.keep hW.ma hr1 hh1 ha1 kp) (hrt4.mono s5) (fun z => hoff b z zb) (fun z => hoff n z zn)⟩, ⟨hv4, s5 _ _ hh4, ?_, fun q => ?_⟩, ⟨ts, s5 _ _ (up _ _ ha2' nra.symm nha.symm), ha2⟩, hW.ne, hW.ma⟩ kp zlH ?_
            · rw [List.length_append]
              show hv4.length ≤ 3 * (rows.length + 1)
              omega
            · rw [home_snoc hitf]
              exact hq4 q
            · rw [hl5]
              simp
end
end Rs
namespace Rs
open PySem PySem.Spec PyProof.Rows L2 C8
theorem yesT {σ : L2.St} {H : Hp} {Q : Bool → Hp → Prop} (h : Q true H) : tYes σ H Q := h
theorem lt_pair (a b : Pt) : PySem.W.DatumOrd.lt a b = lt2 a b := by
  show (if a.1 = b.1 then decide (a.2 < b.2) else decide (a.1 < b.1)) = lt2 a b
  unfold lt2
  by_cases h : a.1 = b.1
  · rw [if_pos h]
    exact decide_eq_decide.mpr (by omega)
  · rw [if_neg h]
    exact decide_eq_decide.mpr (by omega)
theorem minOf_eq : ∀ (r : List Pt) (x : Pt), PySem.W.minOf x r = minP x r
  | [], x => rfl
  | y :: r, x => by
    show PySem.W.minOf (if PySem.W.DatumOrd.lt y x = true then y else x) r = minP (if lt2 y x = true then y else x) r
    rw [lt_pair, minOf_eq r]
theorem erase_at {l : List Pt} {m : Pt} (h : m ∈ l) : ∃ j, l[j]? = some m ∧ (∀ i, i < j → l[i]? ≠ some m) ∧ l.eraseIdx j = l.erase m := by
  induction l with
  | nil => cases h
  | cons a r ih =>
    by_cases e : a = m
    · exact ⟨0, by rw [e] <;> rfl, fun i hi => absurd hi (Nat.not_lt_zero _), by rw [e, List.erase_cons_head] <;> rfl⟩
    · have hr : m ∈ r := by
        rcases List.mem_cons.mp h with z | z
        · exact absurd z.symm e
        · exact z
      obtain ⟨j, h1, h2, h3⟩ := ih hr
      refine ⟨j + 1, h1, fun i hi => ?_, ?_⟩
      · match i, hi with
        | 0, _ => exact fun z => e (Option.some.inj z)
        | i + 1, hi => exact h2 i (by omega)
      · rw [List.erase_cons_tail (by rw [beq_iff_eq]; exact e), ← h3]
        rfl
theorem prs_erase {H : Hp} {ts : List Addr} {L : List Pt} (h : Rg.PrsAt H ts L) (j : Nat) : Rg.PrsAt H (ts.eraseIdx j) (L.eraseIdx j) := by
  refine ⟨by rw [List.length_eraseIdx, List.length_eraseIdx, h.1], fun i t e a b => ?_⟩
  rw [List.getElem?_eraseIdx] at a b
  by_cases q : i < j
  · rw [if_pos q] at a b
    exact h.2 i t e a b
  · rw [if_neg q] at a b
    exact h.2 (i + 1) t e a b
theorem prs_app {H : Hp} {ts us : List Addr} {L M : List Pt} (h : Rg.PrsAt H ts L) (g : Rg.PrsAt H us M) : Rg.PrsAt H (ts ++ us) (L ++ M) := by
  refine ⟨by rw [List.length_append, List.length_append, h.1, g.1], fun i t e a b => ?_⟩
  by_cases q : i < ts.length
  · rw [List.getElem?_append_left q] at a
    rw [List.getElem?_append_left (by rw [← h.1]; exact q)] at b
    exact h.2 i t e a b
  · rw [List.getElem?_append_right (by omega)] at a
    rw [List.getElem?_append_right (by rw [← h.1]; omega), ← h.1] at b
    exact g.2 _ t e a b
section
variable {P : Program} {w : World} {K : PySem.W.Frag} {mg : Str → Option Value} {base : Heap} {C : Addr}
def spWalked (C : Addr) (Tb : Addr) : Sp := fun vs H Q _ => ∃ (pw pb : Addr) (ws bs : List Int), vs = [.ref pw, .ref pb] ∧ H pw = some (.lst (il ws)) ∧ H pb = some (.lst (il bs)) ∧ ws.length ≤ 256 ∧ Bytes ws ∧ bs.length ≤ 16 ∧ H Tb = some (Rg.TabO Tb) ∧
  ∀ (H' : Hp) (A : Wd) (ap : List Pt), Same H H' → WAt C H' A [A.a] (trace ws bs).rows ap → (∀ e, e ∈ ap ↔ e ∈ (trace ws bs).apart) → ap.length ≤ 600 → H A.x = none → H A.r = none → H A.h = none → H A.a = none → Q (.ref A.x) H'
theorem ok_walked (D : DefAt K mg "walked" sD_walked) (T : Txt w K mg) (c_Walk : Mak P w K mg base 1 "Walk" C (spInitW C) []) (c_come : Cal P w K mg base 4 "come" (spLook C (tabAt K "come")) []) :
    Cal P w K mg base 5 "walked" (spWalked C (tabAt K "come")) [] := by
  refine cal_of D sc_walked (fun _ _ _ _ _ _ us hl => match us, hl with | [_, _], _ => rfl) (fun vs H Q E h => ?_) (fun cdv Ar outer s H vs Q E hr h => ?_)
  · obtain ⟨pw, pb, ws, bs, rfl, _⟩ := h
    rfl
  · obtain ⟨pw, pb, ws, bs, rfl, hpw, hpb, hl, hb, hbl, hT, k⟩ := h
    refine ⟨_, (pss_cons (ps_set (i := 2) sc_walked.nd rfl (Or.inl rfl) (pe_mk0 c_Walk hr (by decide) (by rfl)))
  (pss_cons (ps_setLc (i := 3) (own := [("begin", 8)]) (g := gName 8) (by rfl) sc_walked.nd rfl rfl (sw_true rfl rfl rfl (by decide +kernel)) (pi_list (pv 1)) (blkOk_by (own := [("begin", 8)]) (N := N_walked) (sc := defScope sD_walked) (by decide +kernel)) (fun _ _ _ _ _ => (pg_name (i := 8) sc_walked.nd rfl (Or.inl rfl))) (fun _ _ _ _ _ => pts_nil) (fun _ _ _ _ _ => (pe_tup (pa_cons (pv 8) (pa_cons (pe_gI (by rfl) T.g_BEGIN) pa_nil)))))
  (pss_cons (ps_while PassesOwn.never (pt_truth (pv 3) (by intro _; rfl))
   (pss_cons (ps_set (i := 4) sc_walked.nd rfl (Or.inl rfl) (pe_callB (Rg.cr_minP rfl (hu2_of hr)) (by rfl) T.free_min (by decide +kernel) (pa_cons (pv 3) pa_nil)))
  (pss_cons (ps_expr (pe_bm PySem.F.plainAttrs_list PySem.F.slot_list_remove PySem.F.type_list_remove (Rg.mt_remP (hu2_of hr)) (pv 3) (pa_cons (pv 4) pa_nil)))
  (pss_cons (ps_asg (pv 4) (pg_tup rfl (pgs_cons (pg_name (i := 5) sc_walked.nd rfl (Or.inr rfl)) (pgs_cons (pg_name (i := 6) sc_walked.nd rfl (Or.inl rfl)) pgs_nil))))
  (pss_cons (ps_set (i := 7) sc_walked.nd rfl (Or.inl rfl) (pe_c c_come hr (by decide) (by rfl) (pa_cons (pv 2) (pa_cons (pv 0) (pa_cons (pv 5) (pa_cons (pv 6) pa_nil))))))
  (pss_one (ps_expr (pe_bm PySem.F.plainAttrs_list PySem.F.slot_list_extend PySem.F.type_list_extend mt_extend (pv 3) (pa_cons (pe_lc (own := [("lead", 9)]) (g := gName 9) (by rfl) sc_walked.nd (pi_list (pv 7)) (blkOk_by (own := [("lead", 9)]) (N := N_walked) (sc := defScope sD_walked) (by decide +kernel)) (fun _ _ _ _ _ => (pg_name (i := 9) sc_walked.nd rfl (Or.inl rfl))) (fun _ _ _ _ _ => pts_nil) (fun _ _ _ _ _ => (pe_tup (pa_cons (pv 9) (pa_cons (pv 5) pa_nil))))) pa_nil)))))))))
  (pss_one (ps_ret (pv 2)))))), ?_⟩
    refine fun x dx nx ndx nex => ⟨x, dx, rfl, upd_same, fun H1 A ax hW fr fh fa pr => ⟨rfl, ?_⟩⟩
    have s0 : Same H (upd (upd H dx (.own x)) x (.ins C dx [])) := fun q o e => by
      rw [upd_ne (ne_of_none e nx), upd_ne (ne_of_none e ndx)]
      exact e
    have s1 : Same H H1 := fun q o e => pr q o (s0 q o e) (ne_of_none e nx)
    have zx : H A.x = none := by rw [ax]; exact nx
    have zr := s0.free fr
    have zh := s0.free fh
    have za := s0.free fa
    subst ax
    have hpb1 := s1 _ _ hpb
    refine ⟨_, rfl, pb, rfl, ⟨_, SqL.of hpb1⟩, fun lw hlw => ?_⟩
    have zw : H lw = none := s1.free hlw
    refine lc_list (K := K) (a := pb) (xs := il bs) (fun i H' => ∃ ts : List Addr, H' lw = some (.lst (ts.map V.ref)) ∧ Rg.PrsAt H' ts ((bs.take i).map fun b => (b, -1)) ∧ Same H1 H') ⟨[], upd_same, ⟨rfl, fun i t e h1 => by cases h1⟩, Same.new hlw⟩ (fun i H' _ ⟨ts, _, _, z⟩ => SqL.of (z _ _ hpb1)) ?_ ?_
    · rintro i v H' hv ⟨ts, h1, h2, h3⟩
      obtain ⟨hi, rfl⟩ := ints_get hv
      refine ⟨rfl, yesT ?_⟩
      refine iteT ⟨_, rfl, (by show 2 ≤ sizeLine; decide), fun t ht => ⟨_, Same.new ht _ _ h1, ?_, ts ++ [t], ?_, ?_, ?_⟩⟩
      · rw [List.length_map, h2.1, List.length_map, List.length_take]
        exact Nat.lt_of_le_of_lt (Nat.le_trans (Nat.min_le_right _ _) hbl) (by decide)
      · rw [upd_same, List.map_append]
        rfl
      · have nlt : lw ≠ t := ne_of_none h1 ht
        have e1 : (bs.take (i + 1)).map (fun b => ((b, -1) : Pt)) = (bs.take i).map (fun b => ((b, -1) : Pt)) ++ [(bs.getD i 0, -1)] := by
          rw [List.take_add_one, List.map_append, List.getD_eq_getElem?_getD, List.getElem?_eq_getElem hi]
          rfl
        rw [e1]
        refine prs_snoc (PrsAt_mono h2 fun q xs e => ?_) ?_
        · rw [upd_ne (ne_of (Same.new ht _ _ e) (Same.new (o := .tup [V.int (bs.getD i 0), V.int (-1)]) ht _ _ h1) (fun z => by cases z))]
          exact Same.new ht _ _ e
        · rw [upd_ne nlt.symm, upd_same]
      · intro q o e
        rw [upd_ne (ne_of_none e hlw)]
        exact Same.new ht _ _ (h3 _ _ e)
    rintro H2 ⟨ts, hw2, hp2, s2⟩
    rw [List.length_map, List.take_length] at hp2
    have s02 := s1.trans s2
    -- the loop
    refine ⟨fun n σ H' => ∃ (ts : List Addr) (t : TS) (y4 y5 y6 y7 y8 y9 : Option V), σ = [some (.ref pw), some (.ref pb), some (.ref A.x), some (.ref lw), y4, y5, y6, y7, y8, y9] ∧ Same H H' ∧ H' lw = some (.lst (ts.map V.ref)) ∧ lw ≠ A.a ∧ Rg.PrsAt H' ts t.wait ∧ WAt C H' A [A.a, lw] t.rows t.apart ∧ Beside ws bs t ∧ t.apart.length + tmu ws t ≤ 2 * ws.length + bs.length ∧ n = tmu ws t,
      ⟨_, ts, start0 bs, _, _, _, _, _, _, rfl, s02, hw2, (ne_of_none hW.a.choose_spec.1 hlw).symm, hp2, (hW.mono s2).with List.mem_cons_self, beside0 ws bs, ?_, rfl⟩, ?_⟩
    · unfold tmu start0
      simp
    rintro n σ H3 ⟨ts, t, y4, y5, y6, y7, y8, y9, rfl, s3, hw3, nwa, hp3, hW3, hbe, hmu, rfl⟩
    refine ⟨_, rfl, _, .inl ⟨_, SqL.of hw3, rfl⟩, ?_⟩
    cases hwt : t.wait with
    | nil =>
      have ets : ts = [] := by
        have := hp3.1
        rw [hwt] at this
        exact List.eq_nil_of_length_eq_zero this
      rw [ets]
      refine iteF ?_
      obtain ⟨e1, e2⟩ := beside_end hbe hwt
      rw [e1] at hW3
      exact ⟨_, rfl, k H3 A _ s3 (hW3.less (fun q hq => by rw [List.mem_singleton.mp hq]; exact List.mem_cons_self) (List.mem_singleton.mpr rfl)) e2 (by omega) zx zr zh za⟩
    | cons p0 ps =>
      have hne : ts ≠ [] := fun z => by
        have := hp3.1
        rw [z, hwt] at this
        cases this
      have ete : (ts.map V.ref).isEmpty = false := by
        cases ts with
        | nil => exact absurd rfl hne
        | cons a r => rfl
      rw [ete]
      refine iteT ⟨fun σ' H' => ∃ (ts' : List Addr) (y4 y5 y6 y7 y8 y9 : Option V), σ' = [some (.ref pw), some (.ref pb), some (.ref A.x), some (.ref lw), y4, y5, y6, y7, y8, y9] ∧ Same H H' ∧ H' lw = some (.lst (ts'.map V.ref)) ∧ Rg.PrsAt H' ts' (pstep ws t).wait ∧ WAt C H' A [A.a, lw] (pstep ws t).rows (pstep ws t).apart, ?_, ?_⟩
      · rintro σ' H' ⟨ts', y4, y5, y6, y7, y8, y9, rfl, q1, q2, q3, q4⟩
        obtain ⟨m1, m2⟩ := pstep_mu hbe hwt
        exact ⟨_, m1, ts', pstep ws t, _, _, _, _, _, _, rfl, q1, q2, nwa, q3, q4, beside_step hbe, by omega, rfl⟩
      · rw [pstep_eq hwt]
        dsimp only
        obtain ⟨hmm, _⟩ := minP_all (x := p0) (r := ps)
        refine ⟨_, rfl, lw, ts, p0, ps, rfl, SqL.of hw3, hwt ▸ hp3, fun i tm hi hpi => ?_⟩
        rw [minOf_eq] at hpi
        generalize minP p0 ps = mn at hmm hpi ⊢
        have htm : H3 tm = some (.tup [.int mn.1, .int mn.2]) := hp3.2 i tm mn hi (by rw [hwt]; exact hpi)
        obtain ⟨j, j1, j2, j3⟩ := erase_at (l := t.wait) (m := mn) (by rw [hwt]; exact hmm)
        refine ⟨_, rfl, .inl ⟨rfl, _, SqL.of hw3⟩, _, rfl, lw, tm, ts, t.wait, mn, j, rfl, rfl, hw3, hp3, htm, j1, j2, ?_⟩
        have nlt : tm ≠ lw := ne_of htm hw3 (fun z => by cases z)
        have w4 : upd H3 lw (.lst ((ts.eraseIdx j).map V.ref)) lw = some (.lst ((ts.eraseIdx j).map V.ref)) := upd_same
        have s4 : ∀ q u, H3 q = some u → q ≠ lw → upd H3 lw (.lst ((ts.eraseIdx j).map V.ref)) q = some u := fun q u e z => (upd_ne z).trans e
        generalize upd H3 lw (.lst ((ts.eraseIdx j).map V.ref)) = H4 at w4 s4 ⊢
        have s04 : Same H H4 := fun q o e => s4 q o (s3 _ _ e) (ne_of_none e zw)
        refine ⟨_, rfl, tm, _, rfl, SqT.of (s4 _ _ htm nlt), rfl, _, _, rfl, _, _, rfl, rfl, ?_⟩
        have hW4 := hW3.put hw3 (List.mem_cons_of_mem _ (List.mem_singleton.mpr rfl)) nwa s4
        have hp4 : Rg.PrsAt H4 (ts.eraseIdx j) (t.wait.erase mn) := by
          rw [← j3]
          exact prs_erase (PrsAt_mono hp3 fun q xs e => s4 q _ e (ne_of e hw3 (fun z => by cases z))) j
        have zpa : pw ≠ A.a := ne_of_none hpw za
        refine ⟨_, rfl, _, rfl, _, rfl, _, rfl, A, [A.a, lw], t.rows, t.apart, pw, ws, mn.1, mn.2, rfl, hW4, fun q hq => ?_, s04 _ _ hpw, zpa, hl, hb, Nat.le_trans (beside_len hbe) hl, by omega, s04 _ _ hT, fun H5 l hW5 kp zl hl5 => ?_⟩
        · rcases List.mem_cons.mp hq with z | z
          · obtain ⟨_, z2, _⟩ := hW4.a
            rw [z, z2]
            exact fun y => by cases y
          · rw [List.mem_singleton.mp z, w4]
            exact fun y => by cases y
        obtain ⟨en, ecs⟩ := lookP_new ws t.rows t.apart mn
        have lw2 : (lookP ws ⟨t.rows, [], t.apart⟩ mn).wait.length ≤ 2 := by
          rcases ecs with ⟨_, z, _⟩ | ⟨_, _, z, _⟩
          · rw [z]
            decide
          · exact z
        clear ecs
        rw [show (mn.1, mn.2) = mn from rfl] at hW5 hl5
        generalize lookP ws ⟨t.rows, [], t.apart⟩ mn = look at hW5 hl5 en lw2 ⊢
        obtain ⟨_, kr, _⟩ := hW4.r
        obtain ⟨_, kh, _⟩ := hW4.h
        have nlr : lw ≠ A.r := ne_of w4 kr (fun z => by cases z)
        have nlh : lw ≠ A.h := ne_of w4 kh (fun z => by cases z)
        have w5 : H5 lw = some (.lst ((ts.eraseIdx j).map V.ref)) := kp _ _ w4 nlr nlh nwa
        have s05 : Same H H5 := fun q o e => kp q o (s04 _ _ e) (ne_of_none e zr) (ne_of_none e zh) (ne_of_none e za)
        have hp5 : Rg.PrsAt H5 (ts.eraseIdx j) (t.wait.erase mn) := PrsAt_mono hp4 fun q xs e => kp q _ e (ne_of e kr (fun z => by cases z)) (ne_of e kh (fun z => by cases z)) (by
          obtain ⟨_, ka, _⟩ := hW4.a
          exact ne_of e ka (fun z => by cases z))
        have nll : l ≠ lw := (ne_of_none w4 zl).symm
        -- the new ones
        refine ⟨_, rfl, .inl ⟨rfl, _, SqL.of w5⟩, _, rfl, l, rfl, ⟨_, SqL.of hl5⟩, fun D2 hD2 => ?_⟩
        refine lc_list (K := K) (a := l) (xs := il (look.wait.map (·.1))) (fun i H' => ∃ us : List Addr, H' D2 = some (.lst (us.map V.ref)) ∧ Rg.PrsAt H' us ((look.wait.take i).map fun q => (q.1, mn.1)) ∧ Same H5 H') ⟨[], upd_same, ⟨rfl, fun i t e h1 => by cases h1⟩, Same.new hD2⟩ (fun i H' _ ⟨us, _, _, z⟩ => SqL.of (z _ _ hl5)) ?_ ?_
        · rintro i v H' hv ⟨us, h1, h2, h3⟩
          obtain ⟨hi, rfl⟩ := ints_get hv
          rw [List.length_map] at hi
          refine ⟨rfl, yesT ?_⟩
          refine iteT ⟨_, rfl, _, rfl, (by show 2 ≤ sizeLine; decide), fun t' ht => ⟨_, Same.new ht _ _ h1, ?_, us ++ [t'], ?_, ?_, ?_⟩⟩
          · rw [List.length_map, h2.1, List.length_map, List.length_take]
            exact Nat.lt_of_le_of_lt (Nat.le_trans (Nat.min_le_right _ _) lw2) (by decide)
          · rw [upd_same, List.map_append]
            rfl
          · have nlt : D2 ≠ t' := ne_of_none h1 ht
            have e0 : (look.wait.map (·.1)).getD i 0 = (look.wait[i]).1 := by
              rw [List.getD_eq_getElem?_getD, List.getElem?_map, List.getElem?_eq_getElem hi]
              rfl
            have e1 : (look.wait.take (i + 1)).map (fun q => ((q.1, mn.1) : Pt)) = (look.wait.take i).map (fun q => ((q.1, mn.1) : Pt)) ++ [((look.wait.map (·.1)).getD i 0, mn.1)] := by
              rw [List.take_add_one, List.map_append, List.getElem?_eq_getElem hi, e0]
              rfl
            rw [e1]
            refine prs_snoc (PrsAt_mono h2 fun q xs e => ?_) ?_
            · rw [upd_ne (ne_of (Same.new ht _ _ e) (Same.new (o := .tup [V.int ((look.wait.map (·.1)).getD i 0), V.int mn.1]) ht _ _ h1) (fun z => by cases z))]
              exact Same.new ht _ _ e
            · rw [upd_ne nlt.symm, upd_same]
          · intro q o e
            rw [upd_ne (ne_of_none e hD2)]
            exact Same.new ht _ _ (h3 _ _ e)
        rintro H6 ⟨us, hu6, hp6, s6⟩
        rw [List.length_map, List.length_map, List.take_length] at hp6
        have hp6' : Rg.PrsAt H6 us look.wait := by
          rw [en, List.map_map]
          exact hp6
        have w6 := s6 _ _ w5
        have hp56 : Rg.PrsAt H6 (ts.eraseIdx j) (t.wait.erase mn) := PrsAt_mono hp5 fun q xs e => s6 q _ e
        refine ⟨lw, D2, _, _, rfl, rfl, w6, hu6, ?_, ts.eraseIdx j ++ us, _, _, _, _, _, _, rfl, ?_, ?_, ?_, ?_⟩
        · rw [List.length_map, List.length_map, hp56.1, hp6'.1]
          have := List.length_erase_le (a := mn) (l := t.wait)
          have h7 : t.wait.length ≤ 600 := by
            unfold tmu at hmu
            omega
          exact Nat.le_trans (show (t.wait.erase mn).length + look.wait.length ≤ 602 by omega) (by decide)
        · intro q o e
          rw [upd_ne (ne_of_none e zw)]
          exact s6 _ _ (s05 _ _ e)
        · rw [upd_same, List.map_append]
        · exact PrsAt_mono (prs_app hp56 hp6') fun q xs e => (upd_ne (ne_of e w6 (fun z => by cases z))).trans e
        · exact (hW5.mono s6).put w6 (List.mem_cons_of_mem _ (List.mem_singleton.mpr rfl)) nwa fun q u e z => (upd_ne z).trans e
end
end Rs
namespace Rs
open PySem PySem.Spec PyProof.Rows L2 C8
/-! what is told of a following -/
def comeL (ws bs : List Int) : List (Int × Kd) := ((trace ws bs).rows.map fun e => (e.1, e.2.k)).mergeSort fun a b => decide (a.1 ≤ b.1)
def apartL (ws bs : List Int) : List Pt := (trace ws bs).apart.mergeSort fun a b => !lt2 b a
theorem comeL_mem {ws bs : List Int} {p : Int} : (∃ k, (p, k) ∈ comeL ws bs) ↔ RowsP (trace ws bs) p := by
  unfold comeL RowsP
  constructor
  · rintro ⟨k, h⟩
    obtain ⟨⟨q, r⟩, h1, h2⟩ := List.mem_map.mp (List.mem_mergeSort.mp h)
    obtain ⟨e1, e2⟩ := Prod.mk.inj h2
    have e3 : q = p := e1
    subst e3
    exact ⟨r, h1⟩
  · rintro ⟨r, h⟩
    exact ⟨r.k, List.mem_mergeSort.mpr (List.mem_map.mpr ⟨(p, r), h, rfl⟩)⟩
theorem apartL_mem {ws bs : List Int} {e : Pt} : e ∈ apartL ws bs ↔ e ∈ (trace ws bs).apart := List.mem_mergeSort
theorem look_apart {ws : List Int} {s : TS} {m : Pt} : (look ws s m).apart.length ≤ s.apart.length + 1 := by
  unfold look
  split
  · omega
  · split
    · split
      · exact insP_len _ _
      · omega
    · split
      · exact insP_len _ _
      · dsimp only
        omega
theorem tstep_apart {ws : List Int} {s : TS} : (tstep ws s).apart.length ≤ s.apart.length + 1 := by
  unfold tstep
  split
  · omega
  · exact look_apart
theorem traceN_apart {ws : List Int} : ∀ {n : Nat} {s : TS}, (traceN ws n s).apart.length ≤ s.apart.length + n
  | 0, s => Nat.le_refl _
  | n + 1, s => by
    have h1 := traceN_apart (ws := ws) (n := n) (s := tstep ws s)
    have h2 := tstep_apart (ws := ws) (s := s)
    show (traceN ws n (tstep ws s)).apart.length ≤ _
    omega
theorem apart_len (ws bs : List Int) : (apartL ws bs).length ≤ 2 * ws.length + bs.length := by
  have h := traceN_apart (ws := ws) (n := 2 * ws.length + bs.length) (s := begin0 bs)
  unfold apartL
  rw [List.length_mergeSort]
  have e : (begin0 bs).apart.length = 0 := rfl
  rw [e, Nat.zero_add] at h
  exact h
def PairsAt (H : Hp) (ts : List Addr) (L : List (Int × Kd)) : Prop := ts.length = L.length ∧ ∀ (i : Nat) (t : Addr) (e : Int × Kd), ts[i]? = some t → L[i]? = some e → H t = some (.tup [.int e.1, .str e.2.str])
abbrev ApartAt (H : Hp) (ts : List Addr) (L : List Pt) : Prop := Rg.PrsAt H ts L
def Handed (Tb : Addr) (H : Hp) (vs : List V) (ws bs : List Int) : Prop := H Tb = some (Rg.TabO Tb) ∧ ∃ a b : Addr, vs = [.ref a, .ref b] ∧ H a = some (.lst (il ws)) ∧ H b = some (.lst (il bs)) ∧ ws.length ≤ 256 ∧ Bytes ws ∧ bs.length ≤ 16 ∧ ∀ x ∈ bs, 0 ≤ x ∧ x ≤ 255
def spCome (Tb : Addr) : Sp := fun vs H Q _ => ∃ ws bs : List Int, Handed Tb H vs ws bs ∧ ∀ (H' : Hp) (p : Addr) (ts : List Addr), Same H H' → H p = none → H' p = some (.lst (ts.map V.ref)) → PairsAt H' ts (comeL ws bs) → Q (.ref p) H'
def spMid (Tb : Addr) : Sp := fun vs H Q _ => ∃ ws bs : List Int, Handed Tb H vs ws bs ∧ ∀ (H' : Hp) (p : Addr) (ts : List Addr), Same H H' → H p = none → H' p = some (.lst (ts.map V.ref)) → ApartAt H' ts (apartL ws bs) → Q (.ref p) H'
section
variable {P : Program} {w : World} {K : PySem.W.Frag} {mg : Str → Option Value} {base : Heap} {C : Addr}
def spCheckBs (K : PySem.W.Frag) : Sp := fun vs H Q _ => ∃ (a : Addr) (bs : List Int), vs = [.ref a] ∧ SqL K H a (il bs) ∧ bs.length ≤ 16 ∧ (∀ x ∈ bs, 0 ≤ x ∧ x ≤ 255) ∧ ∀ H', Same H H' → Q .non H'
theorem ok_check_begins (D : DefAt K mg "check_begins" sD_check_begins) (T : Txt w K mg) (c_is_whole : Cal P w K mg base 1 "is_whole" spWhole []) : Cal P w K mg base 2 "check_begins" (spCheckBs K) [] := by
  refine cal_of D sc_check_begins (fun _ _ _ _ _ _ us hl => match us, hl with | [_], _ => rfl) (fun vs H Q E h => ?_) (fun cdv A outer s H vs Q E hr h => ?_)
  · obtain ⟨a, ws, rfl, _⟩ := h
    rfl
  · obtain ⟨a, ws, rfl, hS, hl, hb, k⟩ := h
    refine ⟨_, (pss_one (ps_for PassesOwn.never rfl (pi_enum (by rfl) T.free_enumerate (pa_cons (pv 0) pa_nil)) (pg_tup rfl (pgs_cons (pg_name (i := 1) sc_check_begins.nd rfl (Or.inl rfl)) (pgs_cons (pg_name (i := 2) sc_check_begins.nd rfl (Or.inl rfl)) pgs_nil)))
   (pss_one (ps_if (PW.pt (pw_or (pt_cmpR op_ge (pv 1) (pe_gI (by rfl) T.g_BEGINS_MOST) (nomark _)) (pw_or1 (pt_not (pt_val (pe_c c_is_whole hr (by decide) (by rfl) (pa_cons (pv 2) (pa_cons (pe_gI (by rfl) T.g_WORD_MOST) pa_nil))))))))
   (pss_one ps_never)
   pss_nil)))), ?_⟩
    refine ⟨_, rfl, a, _, rfl, hS, for_it (walk_enum (K := K) (a := a) (xs := il ws)) (fun i σ H' => Same H H' ∧ ∃ x y, σ = [some (.ref a), x, y]) ⟨Same.refl _, _, _, rfl⟩ (fun i σ H' _ ⟨s, _⟩ => s.seq hS) ?_ (fun σ H' ⟨s, _⟩ => k _ s)⟩
    rintro i v σ H1 H2 hi ⟨s1, x, y, rfl⟩ ⟨T', x1, y1, rfl, hn, rfl, e1, e2⟩
    cases e1
    obtain ⟨hi2, rfl⟩ := ints_get e2
    have hby := hb _ (getD_mem hi2)
    refine ⟨T', _, rfl, SqT.of upd_same, rfl, _, _, rfl, _, _, rfl, rfl, ?_⟩
    refine ⟨_, rfl, _, _, rfl, rfl, _, rfl, ?_⟩
    have e0 : decide ((16 : Int) ≤ ((i : Nat) : Int)) = false := decide_eq_false (by omega)
    rw [e0]
    refine iteF ?_
    refine ⟨_, rfl, _, _, rfl, _, rfl, ?_⟩
    have e3 : decide (0 ≤ ws.getD i 0 ∧ ws.getD i 0 ≤ 255) = true := decide_eq_true hby
    rw [e3]
    exact iteF ⟨s1.add hn, _, _, rfl⟩
/-- the walk of what is handed in -/
def spChecked (C : Addr) (Tb : Addr) : Sp := fun vs H Q _ => ∃ ws bs : List Int, Handed Tb H vs ws bs ∧
  ∀ (H' : Hp) (A : Wd) (ap : List Pt), Same H H' → WAt C H' A [A.a] (trace ws bs).rows ap → (∀ e, e ∈ ap ↔ e ∈ (trace ws bs).apart) → ap.length ≤ 600 → H A.x = none → H A.r = none → H A.h = none → H A.a = none → Q (.ref A.x) H'
theorem ok_checked_walk (D : DefAt K mg "checked_walk" sD_checked_walk) (T : Txt w K mg) (c_check_words : Cal P w K mg base 2 "check_words" (spCheckW K) []) (c_check_begins : Cal P w K mg base 2 "check_begins" (spCheckBs K) [])
    (c_walked : Cal P w K mg base 5 "walked" (spWalked C (tabAt K "come")) []) : Cal P w K mg base 6 "checked_walk" (spChecked C (tabAt K "come")) [] := by
  refine cal_of D sc_checked_walk (fun _ _ _ _ _ _ us hl => match us, hl with | [_, _], _ => rfl) (fun vs H Q E h => ?_) (fun cdv A outer s H vs Q E hr h => ?_)
  · obtain ⟨ws, bs, ⟨_, a, b, rfl, _⟩, _⟩ := h
    rfl
  · obtain ⟨ws, bs, ⟨hT, a, b, rfl, ha, hb, hl, hy, hbl, hbv⟩, k⟩ := h
    refine ⟨_, (pss_cons (ps_expr (pe_c c_check_words hr (by decide) (by rfl) (pa_cons (pv 0) pa_nil)))
  (pss_cons (ps_expr (pe_c c_check_begins hr (by decide) (by rfl) (pa_cons (pv 1) pa_nil)))
  (pss_one (ps_ret (pe_c c_walked hr (by decide) (by rfl) (pa_cons (pv 0) (pa_cons (pv 1) pa_nil))))))), ?_⟩
    refine ⟨_, rfl, a, ws, rfl, SqL.of ha, hl, hy, fun H1 s1 => ?_⟩
    refine ⟨_, rfl, b, bs, rfl, SqL.of (s1 _ _ hb), hbl, hbv, fun H2 s2 => ?_⟩
    have s12 := s1.trans s2
    refine ⟨_, rfl, _, rfl, a, b, ws, bs, rfl, s12 _ _ ha, s12 _ _ hb, hl, hy, hbl, s12 _ _ hT, fun H3 A ap s3 hW e1 e2 z1 z2 z3 z4 => ?_⟩
    exact k H3 A ap (s12.trans s3) hW e1 e2 (s12.free z1) (s12.free z2) (s12.free z3) (s12.free z4)
theorem rkv_keys {H : Hp} {off : List Addr} : ∀ {kvs : List (L2.Key × V)} {rows : List (Int × Row)}, RKV H off kvs rows → kvs.map (·.1) = (rows.map (·.1)).map Sum.inl
  | [], [], _ => rfl
  | [], e :: r, h => by cases h.1
  | kv :: k, [], h => by cases h.1
  | kv :: k, e :: r, h => by
    obtain ⟨t, b, n, e1, _⟩ := h.2 0 kv e rfl rfl
    have ih := rkv_keys (kvs := k) (rows := r) ⟨by simpa using h.1, fun i x y h1 h2 => h.2 (i + 1) x y h1 h2⟩
    rw [List.map_cons, List.map_cons, List.map_cons, ih, e1]
theorem rkv_get {H : Hp} {off : List Addr} {p : Int} {r : Row} : ∀ {kvs : List (L2.Key × V)} {rows : List (Int × Row)}, RKV H off kvs rows → (rows.map (·.1)).Nodup → (p, r) ∈ rows → ∃ t b n, valV kvs (Sum.inl p) = some (.ref t) ∧ RowT H t b n r
  | [], [], _, _, m => by cases m
  | [], e :: r, h, _, _ => by cases h.1
  | kv :: k, [], h, _, _ => by cases h.1
  | kv :: k, e :: rs, h, nd, m => by
    obtain ⟨t, b, n, e1, e2, _⟩ := h.2 0 kv e rfl rfl
    subst e1
    rcases List.mem_cons.mp m with q | q
    · rw [← q] at e2 ⊢
      exact ⟨t, b, n, valV_pos (p := (Sum.inl p, V.ref t)) rfl, e2⟩
    · rw [List.map_cons, List.nodup_cons] at nd
      obtain ⟨t', b', n', q1, q2⟩ := rkv_get (kvs := k) (rows := rs) ⟨by simpa using h.1, fun i x y h1 h2 => h.2 (i + 1) x y h1 h2⟩ nd.2 q
      refine ⟨t', b', n', ?_, q2⟩
      rw [valV_neg (p := (Sum.inl e.1, V.ref t)) (fun z => nd.1 (by
        have : e.1 = p := Sum.inl.inj z
        rw [this]
        exact List.mem_map.mpr ⟨_, q, rfl⟩))]
      exact q1
theorem trace_nd (ws bs : List Int) : ((trace ws bs).rows.map (·.1)).Nodup := (traceN_fit (ws := ws) (n := 2 * ws.length + bs.length) (s := begin0 bs) ⟨by simp [begin0], fun e h => (by cases h)⟩).nd
/-- the places in order are those of what is told -/
theorem come_keys {ws bs ys : List Int} (h1 : ys.Perm ((trace ws bs).rows.map (·.1))) (h2 : ys.Pairwise (· ≤ ·)) : (comeL ws bs).map (·.1) = ys := by
  refine List.Perm.eq_of_pairwise (le := (· ≤ ·)) (fun a b _ _ x y => by omega) ?_ h2 ?_
  · rw [List.pairwise_map]
    have := List.pairwise_mergeSort (le := fun a b : Int × Kd => decide (a.1 ≤ b.1)) (fun a b c x y => by simp only [decide_eq_true_eq] at x y ⊢; omega) (fun a b => by simp only [Bool.or_eq_true, decide_eq_true_eq]; omega) ((trace ws bs).rows.map fun e => (e.1, e.2.k))
    exact this.imp fun z => of_decide_eq_true z
  · refine List.Perm.trans ?_ h1.symm
    have := (List.mergeSort_perm ((trace ws bs).rows.map fun e => (e.1, e.2.k)) (fun a b => decide (a.1 ≤ b.1))).map (·.1)
    rw [List.map_map] at this
    exact this
theorem pairs_snoc {H : Hp} {ts : List Addr} {L : List (Int × Kd)} {t : Addr} {e : Int × Kd} (h : PairsAt H ts L) (ht : H t = some (.tup [.int e.1, .str e.2.str])) : PairsAt H (ts ++ [t]) (L ++ [e]) := by
  refine ⟨by rw [List.length_append, List.length_append, h.1] <;> rfl, fun i u d a b => ?_⟩
  by_cases q : i < ts.length
  · rw [List.getElem?_append_left q] at a
    rw [List.getElem?_append_left (by rw [← h.1]; exact q)] at b
    exact h.2 i u d a b
  · rw [List.getElem?_append_right (by omega)] at a
    rw [List.getElem?_append_right (by rw [← h.1]; omega), ← h.1] at b
    cases e : i - ts.length with
    | zero =>
      rw [e] at a b
      cases a
      cases b
      exact ht
    | succ j =>
      rw [e] at a
      cases a
theorem pairs_mono {H H' : Hp} {ts : List Addr} {L : List (Int × Kd)} (h : PairsAt H ts L) (s : ∀ q xs, H q = some (.tup xs) → H' q = some (.tup xs)) : PairsAt H' ts L := ⟨h.1, fun i t e h1 h2 => s _ _ (h.2 i t e h1 h2)⟩
theorem come_len (ws bs : List Int) : (comeL ws bs).length ≤ ws.length := by
  unfold comeL
  rw [List.length_mergeSort, List.length_map]
  exact beside_len (s := trace ws bs) (bs := bs) ⟨2 * ws.length + bs.length, rfl, fun _ => Iff.rfl, fun _ h => h, fun _ h => .inl h⟩
theorem ok_come_to (D : DefAt K mg "come_to" sD_come_to) (T : Txt w K mg) (M' : TxtW K C) (c_checked_walk : Cal P w K mg base 6 "checked_walk" (spChecked C (tabAt K "come")) []) : Cal P w K mg base 7 "come_to" (spCome (tabAt K "come")) [] := by
  refine cal_of D sc_come_to (fun _ _ _ _ _ _ us hl => match us, hl with | [_, _], _ => rfl) (fun vs H Q E h => ?_) (fun cdv Ar outer s H vs Q E hr h => ?_)
  · obtain ⟨ws, bs, ⟨_, a, b, rfl, _⟩, _⟩ := h
    rfl
  · obtain ⟨ws, bs, hH, k⟩ := h
    obtain ⟨hT, a, b, rfl, hR⟩ := _root_.id hH
    refine ⟨_, (pss_cons (ps_set (i := 2) sc_come_to.nd rfl (Or.inr rfl) (pe_fld (pe_c c_checked_walk hr (by decide) (by rfl) (pa_cons (pv 0) (pa_cons (pv 1) pa_nil))) rfl))
  (pss_one (ps_ret (pe_lc (own := [("place", 3)]) (g := gName 3) (by rfl) sc_come_to.nd (pi_list (pe_callB (Rg.cr_sortedD rfl) (by rfl) T.free_sorted (by decide +kernel) (pa_cons (pv 2) pa_nil))) (blkOk_by (own := [("place", 3)]) (N := N_come_to) (sc := defScope sD_come_to) (by decide +kernel)) (fun _ _ _ _ _ => (pg_name (i := 3) sc_come_to.nd rfl (Or.inl rfl))) (fun _ _ _ _ _ => pts_nil) (fun _ _ _ _ _ => (pe_tup (pa_cons (pv 3) (pa_cons (pe_ix (r := rIxT K) ix_tup (pe_dget (hu_of hr) (pv 2) (pv 3) (fun _ _ => rfl)) pe_int (fun _ _ => rfl)) pa_nil)))))))), ?_⟩
    refine ⟨_, rfl, _, rfl, ws, bs, hH, fun H1 A ap s1 hW e1 e2 z1 z2 z3 z4 => ?_⟩
    obtain ⟨kvs, hr1, hr2⟩ := hW.r
    refine ⟨A.x, C, A.dx, wf A, _, rfl, hW.x, M'.cl, M'.rows, rfl, ?_⟩
    refine ⟨_, rfl, A.r, kvs, (trace ws bs).rows.map (·.1), rfl, .inl hr1, rkv_keys hr2, fun ys p hy1 hy2 hp => ?_⟩
    have ey := come_keys hy1 hy2
    subst ey
    have s2 := Same.new (o := .lst (il ((comeL ws bs).map (·.1)))) hp
    have hpl : upd H1 p (.lst (il ((comeL ws bs).map (·.1)))) p = some (.lst (il ((comeL ws bs).map (·.1)))) := upd_same
    have hr3 := s2 _ _ hr1
    have hr4 := hr2.mono s2
    have s12 := s1.trans s2
    generalize upd H1 p (.lst (il ((comeL ws bs).map (·.1)))) = H2 at s2 hpl hr3 hr4 s12 ⊢
    refine ⟨p, rfl, ⟨_, SqL.of hpl⟩, fun Dl hD => ?_⟩
    refine lc_list (K := K) (a := p) (xs := il ((comeL ws bs).map (·.1))) (fun i H' => ∃ ts : List Addr, H' Dl = some (.lst (ts.map V.ref)) ∧ PairsAt H' ts ((comeL ws bs).take i) ∧ Same H2 H') ⟨[], upd_same, ⟨rfl, fun i t e h1 => by cases h1⟩, Same.new hD⟩ (fun i H' _ ⟨ts, _, _, z⟩ => SqL.of (z _ _ hpl)) ?_ ?_
    · rintro i v H' hv ⟨ts, h1, h2, h3⟩
      obtain ⟨hi, rfl⟩ := ints_get hv
      rw [List.length_map] at hi
      have e0 : ((comeL ws bs).map (·.1)).getD i 0 = ((comeL ws bs)[i]).1 := by
        rw [List.getD_eq_getElem?_getD, List.getElem?_map, List.getElem?_eq_getElem hi]
        rfl
      rw [e0]
      have hm : (comeL ws bs)[i] ∈ comeL ws bs := List.getElem_mem hi
      obtain ⟨er, m1, m2⟩ := List.mem_map.mp (List.mem_mergeSort.mp hm)
      obtain ⟨t, b', n', g1, g2⟩ := rkv_get (p := er.1) (r := er.2) hr4 (trace_nd ws bs) m1
      have ep : ((comeL ws bs)[i]).1 = er.1 := by rw [← m2]
      have ek : ((comeL ws bs)[i]).2 = er.2.k := by rw [← m2]
      refine ⟨rfl, yesT ?_⟩
      refine iteT ⟨_, rfl, _, rfl, _, rfl, A.r, .ref t, rfl, ?_, t, _, _, _, rfl, rfl, SqT.of (h3 _ _ g2.1), atI_nat (j := 0) rfl, (by show 2 ≤ sizeLine; decide), fun t' ht => ⟨_, Same.new ht _ _ h1, ?_, ts ++ [t'], ?_, ?_, ?_⟩⟩
      · rw [ep, ← g1]
        exact DGet.k (k := Sum.inl er.1) (h3 _ _ hr3)
      · rw [List.length_map, h2.1, List.length_take]
        have := come_len ws bs
        have := hR.2.2.1
        exact Nat.lt_of_le_of_lt (Nat.le_trans (Nat.min_le_right _ _) (show (comeL ws bs).length ≤ 256 by omega)) (by decide)
      · rw [upd_same, List.map_append]
        rfl
      · have nlt : Dl ≠ t' := ne_of_none h1 ht
        have e1 : (comeL ws bs).take (i + 1) = (comeL ws bs).take i ++ [(comeL ws bs)[i]] := by
          rw [List.take_add_one, List.getElem?_eq_getElem hi]
          rfl
        rw [e1]
        refine pairs_snoc (pairs_mono h2 fun q xs e => ?_) ?_
        · rw [upd_ne (ne_of (Same.new ht _ _ e) (Same.new (o := .tup [V.int ((comeL ws bs)[i]).1, V.str er.2.k.str]) ht _ _ h1) (fun z => by cases z))]
          exact Same.new ht _ _ e
        · rw [upd_ne nlt.symm, upd_same, ek]
      · intro q o e
        rw [upd_ne (ne_of_none e hD)]
        exact Same.new ht _ _ (h3 _ _ e)
    rintro H3 ⟨ts, h1, h2, h3⟩
    rw [List.length_map, List.length_map, List.take_length] at h2
    exact k H3 Dl ts (s12.trans h3) (s12.free hD) h1 h2
end
end Rs
/-! Numbers and sums as they are written; the rows of a text without macros -/
namespace Rs
open PySem PySem.Spec PyProof.Rows L2 SX
theorem sub_at (l m : List Nat) (i : Nat) : Builtin.Str.subAt (S l) (S m) i = TL.pre m (l.drop i) := by
  rw [PySem.StrLaws.subAt_eq]
  rfl
/-- l begins with the sign c -/
theorem starts_one (c : Nat) (l : List Nat) : Txt.startswith (S l) (S [c]) = decide (l.head? = some c) := by
  unfold Txt.startswith
  rw [sub_at, S_len, S_len]
  cases l with
  | nil => rfl
  | cons d r =>
    rw [List.drop_zero]
    by_cases q : d = c
    · subst q
      simp [TL.pre]
    · simp [TL.pre, q]
theorem ends_one (c : Nat) (l : List Nat) : Txt.endswith (S l) (S [c]) = decide (l.getLast? = some c) := by
  unfold Txt.endswith
  rw [sub_at, S_len, S_len]
  rcases List.eq_nil_or_concat l with rfl | ⟨r, d, rfl⟩
  · rfl
  · rw [List.concat_eq_append, List.length_append, show [c].length = 1 from rfl, show [d].length = 1 from rfl, Nat.add_sub_cancel, List.drop_left]
    by_cases q : d = c
    · subst q
      simp [TL.pre]
    · simp [TL.pre, q]
theorem rmp_hit (c : Nat) (l : List Nat) : Txt.removeprefix (S (c :: l)) (S [c]) = S l := by
  unfold Txt.removeprefix
  rw [sub_at, if_pos (by simp [TL.pre])]
  unfold Txt.affix
  simp only
  rw [S_len, S_len, if_neg (by simp)]
  refine TL.ext_tl ?_
  show ((S (c :: l)).cps.extract 1 (c :: l).length).toList = l
  simp [S]
theorem rmp_miss {c : Nat} {l : List Nat} (h : l.head? ≠ some c) : Txt.removeprefix (S l) (S [c]) = S l := by
  unfold Txt.removeprefix
  rw [sub_at, if_neg]
  · rfl
  · cases l with
    | nil => simp [TL.pre]
    | cons d r =>
      have : d ≠ c := fun z => h (by rw [z]; rfl)
      simp [TL.pre, this]
/-- a number as it is written -/
def strI (n : Int) : Str := Str.ofString (toString n)
theorem strI_nat (n : Nat) : strI (n : Int) = S (TL.numL n) := TL.ext_tl (TL.tl_num n)
theorem num_head : ∀ n : Nat, 0 < n → ∃ c r, TL.numL n = c :: r ∧ c ≠ 48 := fun n => by
  induction n using Nat.strongRecOn with
  | _ n ih =>
    intro h0
    by_cases h : n < 10
    · rw [TL.numL_lt h]
      exact ⟨48 + n, [], rfl, by omega⟩
    · rw [TL.numL_step (by omega)]
      obtain ⟨c, r, e, hc⟩ := ih (n / 10) (by omega) (by omega)
      rw [e]
      exact ⟨c, r ++ [48 + n % 10], rfl, hc⟩
theorem not_lt_1 {a c : Nat} (h : a ≤ c) : ¬ ([c] : List Nat) < [a] := fun z => by
  cases z with
  | rel y => omega
  | cons y => cases y
theorem zero_S : ("0" : Str) = S [48] := by decide +kernel
theorem num_figs {n : Nat} (h : n < 10000) : isFigures (S (TL.numL n)) = true := by
  have h1 : (TL.numL n).length ≤ 4 := TL.numL_len (by decide) (show n < 10 ^ 4 by omega)
  have h2 := TL.numL_ne n
  have h3 := TL.numL_digits n
  unfold isFigures
  rw [Bool.and_eq_true, Bool.and_eq_true, Bool.not_eq_true', S_len]
  refine ⟨decide_eq_true ⟨?_, by omega⟩, ?_, ?_⟩
  · have : 0 < (TL.numL n).length := List.length_pos_iff.mpr h2
    omega
  · rw [zero_S, starts_one]
    rcases Nat.eq_zero_or_pos n with z | z
    · subst z
      decide +kernel
    · obtain ⟨c, r, e, hc⟩ := num_head n z
      rw [e]
      have : (c :: r).head? ≠ some 48 := fun y => hc (Option.some.inj y)
      rw [decide_eq_false this, Bool.false_and]
  · refine List.all_eq_true.mpr fun c hc => ?_
    have hc : c ∈ TL.numL n := hc
    obtain ⟨a, b⟩ := h3 c hc
    unfold between
    rw [Bool.and_eq_true, Bool.not_eq_true', Bool.not_eq_true', decide_eq_false_iff_not, decide_eq_false_iff_not]
    exact ⟨not_lt_1 (show 48 ≤ c from a), not_lt_1 (show c ≤ 57 from b)⟩
theorem num_int {n : Nat} (h : n < 10000) : PySem.intText? (S (TL.numL n)) = some (n : Int) := by
  rw [← strI_nat]
  refine TL.int_num ?_
  have := TL.numL_len (k := 4) (by decide) (show n < 10 ^ 4 by omega)
  omega
/-! ### sums -/
/-- no sign that cuts a sum -/
def NoCut (l : List Nat) : Prop := ∀ c ∈ l, c ≠ 43 ∧ c ≠ 45
theorem num_noCut (n : Nat) : NoCut (TL.numL n) := fun c hc => by
  have := TL.numL_digits n c hc
  omega
theorem S_one (c : Nat) : (⟨#[c]⟩ : Str) = S [c] := rfl
theorem go_part : ∀ (l r : List Nat) (sign : Int) (part : List Nat) (acc : List Pc), NoCut l → splitGo (l ++ r) sign (S part) acc = splitGo r sign (S (part ++ l)) acc
  | [], r, sign, part, acc, _ => by rw [List.nil_append, List.append_nil]
  | c :: l, r, sign, part, acc, h => by
    have hc := h c List.mem_cons_self
    show (if c = 43 ∨ c = 45 then _ else splitGo (l ++ r) sign (S part ++ ⟨#[c]⟩) acc) = _
    rw [if_neg (fun z => z.elim hc.1 hc.2), S_one, S_cat, go_part l r sign (part ++ [c]) acc (fun d hd => h d (List.mem_cons_of_mem _ hd)), List.append_assoc]
    rfl
theorem empty_S : ("" : Str) = S [] := by decide +kernel
theorem minus_S : ("-" : Str) = S [45] := by decide +kernel
/-- a sum of parts: the first with a sign ahead or none, the others with a sign between -/
def sumL : List (Int × List Nat) → List Nat
  | [] => []
  | [(s, p)] => (if s = -1 then [45] else []) ++ p
  | (s, p) :: (t, q) :: r => (if s = -1 then [45] else []) ++ p ++ (if t = -1 then 45 else 43) :: (sumT ((t, q) :: r))
where
  sumT : List (Int × List Nat) → List Nat
  | [] => []
  | [(_, p)] => p
  | (_, p) :: (t, q) :: r => p ++ (if t = -1 then 45 else 43) :: sumT ((t, q) :: r)
theorem go_tail : ∀ (ps : List (Int × List Nat)) (acc : List Pc), ps ≠ [] → (∀ e ∈ ps, NoCut e.2 ∧ (e.1 = 1 ∨ e.1 = -1)) → splitGo (sumL.sumT ps) (ps.headD (1, [])).1 "" acc = acc ++ ps.map fun e => (e.1, S e.2)
  | [], acc, h, _ => absurd rfl h
  | [(s, p)], acc, _, h => by
    have h1 := (h (s, p) List.mem_cons_self).1
    show splitGo p s "" acc = _
    have := go_part p [] s [] acc h1
    rw [List.append_nil] at this
    rw [empty_S, this]
    rfl
  | (s, p) :: (t, q) :: r, acc, _, h => by
    have h1 := (h (s, p) List.mem_cons_self).1
    have ht := (h (t, q) (List.mem_cons_of_mem _ List.mem_cons_self)).2
    have ih := go_tail ((t, q) :: r) (acc ++ [(s, S p)]) (List.cons_ne_nil _ _) (fun e he => h e (List.mem_cons_of_mem _ he))
    show splitGo (p ++ (if t = -1 then 45 else 43) :: sumL.sumT ((t, q) :: r)) s "" acc = _
    rw [empty_S, go_part p _ s [] acc h1, List.nil_append]
    have e : splitGo ((if t = -1 then 45 else 43) :: sumL.sumT ((t, q) :: r)) s (S p) acc = splitGo (sumL.sumT ((t, q) :: r)) t "" (acc ++ [(s, S p)]) := by
      rcases ht with z | z
      · have z : t = 1 := z
        subst z
        rfl
      · have z : t = -1 := z
        subst z
        rfl
    rw [e]
    have ih : splitGo (sumL.sumT ((t, q) :: r)) t "" (acc ++ [(s, S p)]) = _ := ih
    rw [ih, List.append_assoc]
    rfl
theorem split_sumL (ps : List (Int × List Nat)) (hne : ps ≠ []) (h : ∀ e ∈ ps, NoCut e.2 ∧ e.2 ≠ [] ∧ (e.1 = 1 ∨ e.1 = -1)) : splitSum (S (sumL ps)) = ps.map fun e => (e.1, S e.2) := by
  have ht := go_tail ps [] hne (fun e he => ⟨(h e he).1, (h e he).2.2⟩)
  rw [List.nil_append] at ht
  cases ps with
  | nil => exact absurd rfl hne
  | cons e r =>
    obtain ⟨s, p⟩ := e
    obtain ⟨h1, h2, h3⟩ := h (s, p) List.mem_cons_self
    have eL : sumL ((s, p) :: r) = (if s = -1 then [45] else []) ++ sumL.sumT ((s, p) :: r) := by
      cases r with
      | nil => rfl
      | cons f r =>
        obtain ⟨t, q⟩ := f
        show (if s = -1 then [45] else []) ++ p ++ _ = (if s = -1 then [45] else []) ++ (p ++ _)
        rw [List.append_assoc]
    have hh : ∃ c t, sumL.sumT ((s, p) :: r) = c :: t ∧ c ≠ 45 := by
      cases p with
      | nil => exact absurd rfl h2
      | cons c p =>
        refine ⟨c, ?_, ?_, (h1 c List.mem_cons_self).2⟩
        · exact (sumL.sumT ((s, c :: p) :: r)).tail
        · cases r with
          | nil => rfl
          | cons f r => rfl
    obtain ⟨c, t, ec, nc⟩ := hh
    unfold splitSum
    rw [eL, minus_S]
    rcases h3 with z | z
    · have z : s = 1 := z
      subst z
      have e1 : ((if (1 : Int) = -1 then [45] else []) ++ sumL.sumT ((1, p) :: r) : List Nat) = sumL.sumT ((1, p) :: r) := rfl
      rw [e1, starts_one, rmp_miss (by rw [ec]; exact fun y => nc (Option.some.inj y)), decide_eq_false (by rw [ec]; exact fun y => nc (Option.some.inj y))]
      exact ht
    · have z : s = -1 := z
      subst z
      have e1 : ((if (-1 : Int) = -1 then [45] else []) ++ sumL.sumT ((-1, p) :: r) : List Nat) = 45 :: sumL.sumT ((-1, p) :: r) := rfl
      rw [e1, starts_one, rmp_hit, decide_eq_true (show (45 :: sumL.sumT ((-1, p) :: r)).head? = some 45 from rfl)]
      exact ht
theorem mapE_ok {α β : Type} {f : α → Re β} {a : α} {r : List α} {b : β} {bs : List β} (h1 : f a = .ok b) (h2 : mapE f r = .ok bs) : mapE f (a :: r) = .ok (b :: bs) := by
  unfold mapE
  rw [h1]
  simp only
  rw [h2]
theorem mapE_split {α β : Type} {f : α → Re β} {a : α} {r : List α} {ys : List β} (h : mapE f (a :: r) = .ok ys) : ∃ b bs, f a = .ok b ∧ mapE f r = .ok bs ∧ ys = b :: bs := by
  unfold mapE at h
  cases e : f a with
  | error z =>
    rw [e] at h
    cases h
  | ok b =>
    rw [e] at h
    cases e2 : mapE f r with
    | error z =>
      rw [e2] at h
      cases h
    | ok bs =>
      rw [e2] at h
      exact ⟨b, bs, rfl, rfl, (Except.ok.inj h).symm⟩
/-- a frame outside of macros -/
def F0 (n : Int) : Fm := ⟨n, 0, "", [], []⟩
theorem part_num {F : Fm} {n : Nat} (h : n < 10000) : partM F (S (TL.numL n)) = .ok [(1, Sum.inl (n : Int))] := by
  unfold partM
  rw [if_pos (num_figs h), num_int h] <;> rfl
/-- a part that is a name, in a frame without any other meaning -/
theorem part_name {F : Fm} {a : Str} (h1 : isFigures a = false) (h2 : a ≠ ("here" : Str)) (hb : F.boxes = []) (hs : F.sums = []) (hn : isName a = true) : partM F a = .ok [(1, Sum.inr a)] := by
  unfold partM
  rw [if_neg (by rw [h1]; decide), if_neg h2, hb, hs]
  have e : nameM F a = .ok a := by
    unfold nameM
    rw [if_pos hn]
  rw [if_neg (fun z : (getL ([] : List (Str × Int)) a).isSome = true => by cases z)]
  show (match nameM F a with | .ok n => (.ok [(1, Sum.inr n)] : Re (List Pp)) | .error e => .error e) = _
  rw [e]
theorem part_here {F : Fm} : partM F "here" = .ok [(1, Sum.inr ("here" : Str))] := by
  unfold partM
  rw [if_neg (by decide +kernel), if_pos rfl]
/-- a sum of known parts -/
theorem sum_parts {F : Fm} {ps : List (Int × List Nat)} {ks : List Key} (hne : ps ≠ []) (h : ∀ e ∈ ps, NoCut e.2 ∧ e.2 ≠ [] ∧ (e.1 = 1 ∨ e.1 = -1)) (hl : ps.length ≤ 24) (hk : ks.length = ps.length) (hp : ∀ (i : Nat) (e : Int × List Nat) (k : Key), ps[i]? = some e → ks[i]? = some k → partM F (S e.2) = .ok [(1, k)]) :
    sumM F (S (sumL ps)) = .ok (List.zipWith (fun e k => (e.1, k)) ps ks) := by
  unfold sumM
  rw [split_sumL ps hne h]
  have go : ∀ (ps : List (Int × List Nat)) (ks : List Key), ks.length = ps.length → (∀ (i : Nat) (e : Int × List Nat) (k : Key), ps[i]? = some e → ks[i]? = some k → partM F (S e.2) = .ok [(1, k)]) → mapE (partS F) (ps.map fun e => (e.1, S e.2)) = .ok (List.zipWith (fun e k => [(e.1, k)]) ps ks) := fun ps => by
    induction ps with
    | nil =>
      intro ks hk _
      have : ks = [] := List.eq_nil_of_length_eq_zero hk
      rw [this] <;> rfl
    | cons e r ih =>
      intro ks hk hp
      cases ks with
      | nil => cases hk
      | cons k ks =>
        have ih := ih ks (Nat.succ.inj hk) (fun i e k a b => hp (i + 1) e k a b)
        have h0 := hp 0 e k rfl rfl
        have e1 : partS F (e.1, S e.2) = .ok [(e.1, k)] := by
          unfold partS
          show (match partM F (S e.2) with | .ok L => _ | .error z => _) = _
          rw [h0]
          show Except.ok [(e.1 * 1, k)] = _
          rw [Int.mul_one]
        rw [List.map_cons, mapE_ok e1 ih]
        rfl
  rw [go ps ks hk hp]
  have fl : ∀ (ps : List (Int × List Nat)) (ks : List Key), (List.zipWith (fun (e : Int × List Nat) (k : Key) => [((e.1, k) : Pp)]) ps ks).flatten = List.zipWith (fun e k => (e.1, k)) ps ks := fun ps => by
    induction ps with
    | nil => exact fun ks => by rw [List.zipWith_nil_left, List.zipWith_nil_left] <;> rfl
    | cons e r ih =>
      intro ks
      cases ks with
      | nil => rw [List.zipWith_nil_right, List.zipWith_nil_right] <;> rfl
      | cons k ks =>
        rw [List.zipWith_cons_cons, List.zipWith_cons_cons, List.flatten_cons, ih]
        rfl
  show (if (List.zipWith (fun (e : Int × List Nat) (k : Key) => [((e.1, k) : Pp)]) ps ks).flatten.length > 24 then (.error (F.row, "long") : Re (List Pp)) else .ok (List.zipWith (fun (e : Int × List Nat) (k : Key) => [((e.1, k) : Pp)]) ps ks).flatten) = _
  rw [fl, if_neg (by rw [List.length_zipWith]; omega)]
/-! ### the rows of a text without macros -/
/-- one row, put in where nothing was called -/
def rowI (e : Int × List Str) : Re Rm := match e.2 with
  | [] => .error (e.1, "none")
  | a :: r => if Txt.endswith a ":" = true then match nameM (F0 e.1) (Txt.slice a none (some (-1))) with
      | .error z => .error z
      | .ok n => if r = [] then .ok { Rm.new e.1 with label := n } else fillM (F0 e.1) { Rm.new e.1 with label := n } r
    else fillM (F0 e.1) (Rm.new e.1) (a :: r)
/-- the rows that are not empty, by their numbers -/
def numbered (lines : List (List Str)) (n : Int) : List (Int × List Str) := match lines with
  | [] => []
  | ws :: r => if ws = [] then numbered r (n + 1) else (n, ws) :: numbered r (n + 1)
theorem put_plain {rd : Rd} {n : Int} {ws : List Str} {R : Rm} (hm : rd.macros = []) (hl : rd.rows.length < 400) (h : rowI (n, ws) = .ok R) : putInM rd n ws = .ok (rd.add R) := by
  have eF : (⟨n, rd.macros.length, "", [], []⟩ : Fm) = F0 n := by rw [hm] <;> rfl
  have ep : putRowM rd (F0 n) ws = .ok (rd.add R, []) := by
    unfold putRowM
    rw [if_neg (by omega)]
    unfold rowI at h
    cases ws with
    | nil => cases h
    | cons a r =>
      simp only at h ⊢
      by_cases q : Txt.endswith a ":" = true
      · rw [if_pos q] at h ⊢
        cases e : nameM (F0 n) (Txt.slice a none (some (-1))) with
        | error z =>
          rw [e] at h
          cases h
        | ok m =>
          rw [e] at h
          simp only at h ⊢
          unfold restM
          cases r with
          | nil =>
            rw [if_pos rfl] at h
            rw [← Except.ok.inj h] <;> rfl
          | cons b r =>
            rw [if_neg (List.cons_ne_nil _ _)] at h
            simp only [hm]
            rw [if_neg (fun z : (getL ([] : List (Str × Mac)) b).isSome = true => by cases z)]
            have e2 : fillM (F0 n) { Rm.new (F0 n).row with label := m } (b :: r) = .ok R := h
            rw [e2]
      · rw [if_neg q] at h ⊢
        unfold restM
        simp only [hm]
        rw [if_neg (fun z : (getL ([] : List (Str × Mac)) a).isSome = true => by cases z)]
        have e2 : fillM (F0 n) (Rm.new (F0 n).row) (a :: r) = .ok R := h
        rw [e2]
  unfold putInM
  rw [eF]
  show (match putRowM rd (F0 n) ws with | .error e => (.error e : Re Rd) | .ok (rd', more) => putGo 400 rd' (more ++ [])) = _
  rw [ep]
  rfl
theorem read_plain {lines : List (List Str)} {Rs : List Rm} (hP : PlainL lines) (h : mapE rowI (numbered lines 0) = .ok Rs) (hl : (numbered lines 0).length ≤ 400) : readM lines = .ok Rs := by
  have go : ∀ (lines : List (List Str)) (n : Int) (rd : Rd) (Rs : List Rm), PlainL lines → rd.macros = [] → rd.begun = false → mapE rowI (numbered lines n) = .ok Rs → rd.rows.length + (numbered lines n).length ≤ 400 → ∃ rd', readGo lines n rd = .ok rd' ∧ rd'.begun = false ∧ rd'.rows = rd.rows ++ Rs := fun lines => by
    induction lines with
    | nil =>
      intro n rd Rs _ _ hb h _
      have : Rs = [] := (Except.ok.inj h).symm
      rw [this, List.append_nil]
      exact ⟨rd, rfl, hb, rfl⟩
    | cons ws r ih =>
      intro n rd Rs hP hm hb h hl
      have hP2 : PlainL r := fun x hx => hP x (List.mem_cons_of_mem _ hx)
      show ∃ rd', (if ws = [] then readGo r (n + 1) rd else match readRowM rd n ws with | .error e => (.error e : Re Rd) | .ok rd' => readGo r (n + 1) rd') = .ok rd' ∧ _
      unfold numbered at h hl
      by_cases q : ws = []
      · rw [if_pos q] at h hl ⊢
        exact ih (n + 1) rd Rs hP2 hm hb h hl
      · rw [if_neg q] at h hl ⊢
        obtain ⟨R, Rt, e1, e2, eR⟩ := mapE_split h
        rw [List.length_cons] at hl
        obtain ⟨p1, p2⟩ := hP ws List.mem_cons_self
        have er : readRowM rd n ws = .ok (rd.add R) := by
          unfold readRowM
          rw [if_neg p1, if_neg p2, if_neg (by rw [hb]; decide)]
          exact put_plain hm (by omega) e1
        rw [er]
        obtain ⟨rd', a, b, c⟩ := ih (n + 1) (rd.add R) Rt hP2 hm hb e2 (by
          show (rd.rows ++ [R]).length + _ ≤ 400
          rw [List.length_append]
          have : [R].length = 1 := rfl
          omega)
        refine ⟨rd', a, b, ?_⟩
        rw [c, eR]
        show rd.rows ++ [R] ++ Rt = _
        rw [List.append_assoc] <;> rfl
  obtain ⟨rd', a, b, c⟩ := go lines 0 Rd.new Rs hP rfl rfl h (by show 0 + _ ≤ 400; omega)
  unfold readM
  rw [a]
  show (if rd'.begun = true then _ else Except.ok rd'.rows) = _
  rw [if_neg (by rw [b]; decide), c]
  rfl
end Rs
/-! One row of the machine behind `is five 5` and a room: what it comes to -/
namespace Rs
open PySem PySem.Spec PyProof.Rows L2 SX
theorem page_mk {lines : List (List Str)} {rows0 rows rs : List Rm} {g : List Str} {ord : List Nat} {P0 : Pg} (e1 : readM lines = .ok rows0) (e2 : givenM rows0 [] = .ok g) (e3 : knownM g rows0 [] = .ok rows) (e4 : settledM rows = .ok ord) (e5 : settleM (rows.length + 1) rows ord = some P0) (e6 : roomM P0.rows = .ok ()) (e7 : wordsAll P0.worths P0.rows = .ok rs) :
    pageL lines = .ok { P0 with rows := rs } := by
  unfold pageL
  simp only [e1, e2, e3, e4, e5, e6, e7]
def five : List Nat := [102, 105, 118, 101]
theorem five_S : ("five" : Str) = S five := by decide +kernel
/-- a sum that comes to n, in one of three forms -/
def asP (n : Int) (m c : Nat) : List (Int × List Nat) :=
  if c = 0 then [(if 0 ≤ n then 1 else -1, TL.numL n.natAbs)]
  else if c = 1 then (if 0 ≤ n + m then [(1, TL.numL (n + m).toNat), (-1, TL.numL m)] else [(-1, TL.numL (m - n).toNat), (1, TL.numL m)])
  else (if 5 ≤ n then [(1, five), (1, TL.numL (n - 5).toNat)] else [(1, five), (-1, TL.numL (5 - n).toNat)])
def asK (n : Int) (m c : Nat) : List Key :=
  if c = 0 then [Sum.inl (n.natAbs : Int)]
  else if c = 1 then (if 0 ≤ n + m then [Sum.inl ((n + m).toNat : Int), Sum.inl (m : Int)] else [Sum.inl ((m - n).toNat : Int), Sum.inl (m : Int)])
  else (if 5 ≤ n then [Sum.inr "five", Sum.inl ((n - 5).toNat : Int)] else [Sum.inr "five", Sum.inl ((5 - n).toNat : Int)])
def asL (n : Int) (m c : Nat) : List Pp := List.zipWith (fun e k => (e.1, k)) (asP n m c) (asK n m c)
theorem five_part {F : Fm} (hb : F.boxes = []) (hs : F.sums = []) : partM F (S five) = .ok [(1, Sum.inr "five")] := by
  rw [← five_S]
  exact part_name (by decide +kernel) (by decide +kernel) hb hs (by decide +kernel)
theorem five_noCut : NoCut five := by
  intro c hc
  have key : ∀ c ∈ five, c ≠ 43 ∧ c ≠ 45 := by decide
  exact key c hc
theorem as_ok (n : Int) (m c : Nat) : asP n m c ≠ [] ∧ (∀ e ∈ asP n m c, NoCut e.2 ∧ e.2 ≠ [] ∧ (e.1 = 1 ∨ e.1 = -1)) ∧ (asP n m c).length ≤ 24 ∧ (asK n m c).length = (asP n m c).length := by
  have nm : ∀ (s : Int) (k : Nat), (s = 1 ∨ s = -1) → NoCut (TL.numL k) ∧ TL.numL k ≠ [] ∧ (s = 1 ∨ s = -1) := fun s k h => ⟨num_noCut k, TL.numL_ne k, h⟩
  have fv : NoCut five ∧ five ≠ [] ∧ ((1 : Int) = 1 ∨ (1 : Int) = -1) := ⟨five_noCut, by decide, .inl rfl⟩
  unfold asP asK
  by_cases q0 : c = 0
  · rw [if_pos q0, if_pos q0]
    refine ⟨by simp, fun e he => ?_, by simp, rfl⟩
    rw [List.mem_singleton.mp he]
    refine nm _ _ ?_
    by_cases z : 0 ≤ n
    · exact .inl (if_pos z)
    · exact .inr (if_neg z)
  rw [if_neg q0, if_neg q0]
  have two : ∀ {a b : Int × List Nat} {x y : Key}, (NoCut a.2 ∧ a.2 ≠ [] ∧ (a.1 = 1 ∨ a.1 = -1)) → (NoCut b.2 ∧ b.2 ≠ [] ∧ (b.1 = 1 ∨ b.1 = -1)) → [a, b] ≠ [] ∧ (∀ e ∈ [a, b], NoCut e.2 ∧ e.2 ≠ [] ∧ (e.1 = 1 ∨ e.1 = -1)) ∧ [a, b].length ≤ 24 ∧ [x, y].length = [a, b].length := fun ha hb => by
    refine ⟨by simp, fun e he => ?_, by simp, rfl⟩
    rcases List.mem_cons.mp he with z | z
    · rw [z]; exact ha
    · rw [List.mem_singleton.mp z]; exact hb
  by_cases q1 : c = 1
  · rw [if_pos q1, if_pos q1]
    by_cases z : 0 ≤ n + m
    · rw [if_pos z, if_pos z]
      exact two (nm 1 _ (.inl rfl)) (nm (-1) _ (.inr rfl))
    · rw [if_neg z, if_neg z]
      exact two (nm (-1) _ (.inr rfl)) (nm 1 _ (.inl rfl))
  · rw [if_neg q1, if_neg q1]
    by_cases z : 5 ≤ n
    · rw [if_pos z, if_pos z]
      exact two fv (nm 1 _ (.inl rfl))
    · rw [if_neg z, if_neg z]
      exact two fv (nm (-1) _ (.inr rfl))
theorem as_sum {F : Fm} {n : Int} {m c : Nat} (h0 : -1000 ≤ n) (h1 : n ≤ 1000) (hm : m ≤ 1000) (hb : F.boxes = []) (hs : F.sums = []) : sumM F (S (sumL (asP n m c))) = .ok (asL n m c) := by
  obtain ⟨a1, a2, a3, a4⟩ := as_ok n m c
  refine sum_parts a1 a2 a3 a4 fun i e k he hk => ?_
  unfold asP at he
  unfold asK at hk
  have two : ∀ {a b : Int × List Nat} {x y : Key}, [a, b][i]? = some e → [x, y][i]? = some k → (partM F (S a.2) = .ok [(1, x)]) → (partM F (S b.2) = .ok [(1, y)]) → partM F (S e.2) = .ok [(1, k)] := fun p q r s => by
    cases i with
    | zero =>
      cases p
      cases q
      exact r
    | succ i =>
      cases i with
      | zero =>
        cases p
        cases q
        exact s
      | succ i => cases p
  by_cases q0 : c = 0
  · rw [if_pos q0] at he hk
    cases i with
    | zero =>
      cases he
      cases hk
      exact part_num (by omega)
    | succ i => cases he
  rw [if_neg q0] at he hk
  by_cases q1 : c = 1
  · rw [if_pos q1] at he hk
    by_cases z : 0 ≤ n + m
    · rw [if_pos z] at he hk
      exact two he hk (part_num (by omega)) (part_num (by omega))
    · rw [if_neg z] at he hk
      exact two he hk (part_num (by omega)) (part_num (by omega))
  · rw [if_neg q1] at he hk
    by_cases z : 5 ≤ n
    · rw [if_pos z] at he hk
      exact two he hk (five_part hb hs) (part_num (by omega))
    · rw [if_neg z] at he hk
      exact two he hk (five_part hb hs) (part_num (by omega))
theorem as_worth {mm : List (Str × Int)} {here n : Int} {m c : Nat} (h5 : getL mm "five" = some 5) : worthM mm here (asL n m c) = n := by
  unfold asL asP asK
  have w5 : wM mm here (Sum.inr "five") = 5 := by
    show (if ("five" : Str) = "here" then here else (getL mm "five").getD 0) = 5
    rw [if_neg (by decide), h5] <;> rfl
  by_cases q0 : c = 0
  · rw [if_pos q0, if_pos q0]
    show 0 + (if 0 ≤ n then (1 : Int) else -1) * (n.natAbs : Int) = n
    by_cases z : 0 ≤ n
    · rw [if_pos z]; omega
    · rw [if_neg z]; omega
  rw [if_neg q0, if_neg q0]
  by_cases q1 : c = 1
  · rw [if_pos q1, if_pos q1]
    by_cases z : 0 ≤ n + m
    · rw [if_pos z, if_pos z]
      show 0 + 1 * ((n + m).toNat : Int) + (-1) * (m : Int) = n
      omega
    · rw [if_neg z, if_neg z]
      show 0 + (-1) * (((m : Int) - n).toNat : Int) + 1 * (m : Int) = n
      omega
  · rw [if_neg q1, if_neg q1]
    by_cases z : 5 ≤ n
    · rw [if_pos z, if_pos z]
      show 0 + 1 * wM mm here (Sum.inr "five") + 1 * ((n - 5).toNat : Int) = n
      rw [w5]
      omega
    · rw [if_neg z, if_neg z]
      show 0 + 1 * wM mm here (Sum.inr "five") + (-1) * ((5 - n).toNat : Int) = n
      rw [w5]
      omega
theorem as_names {n : Int} {m c : Nat} : ∀ x ∈ namesIn (asL n m c), x = ("five" : Str) := by
  unfold asL asP asK
  intro x hx
  by_cases q0 : c = 0
  · rw [if_pos q0, if_pos q0] at hx
    cases hx
  rw [if_neg q0, if_neg q0] at hx
  by_cases q1 : c = 1
  · rw [if_pos q1, if_pos q1] at hx
    by_cases z : 0 ≤ n + m
    · rw [if_pos z, if_pos z] at hx
      cases hx
    · rw [if_neg z, if_neg z] at hx
      cases hx
  · rw [if_neg q1, if_neg q1] at hx
    by_cases z : 5 ≤ n
    · rw [if_pos z, if_pos z] at hx
      have hx : x ∈ ([("five" : Str)] : List Str) := hx
      exact List.mem_singleton.mp hx
    · rw [if_neg z, if_neg z] at hx
      have hx : x ∈ ([("five" : Str)] : List Str) := hx
      exact List.mem_singleton.mp hx
end Rs
/-! One row of the machine behind `is five 5` and a room: its page -/
namespace Rs
open PySem PySem.Spec PyProof.Rows L2 SX
def R0 : Rm := ⟨0, "", "is", [], [[(1, Sum.inl 5)]], "five", 0, 0, false, []⟩
def R1 (lead : Nat) : Rm := ⟨1, "", "room", [], [[(1, Sum.inl (lead : Int))]], "", 0, 0, false, []⟩
def R1a (lead : Nat) : Rm := ⟨1, "", "room", [], [[(1, Sum.inl (lead : Int))]], "", (lead : Int), 0, false, []⟩
def R1w (lead : Nat) : Rm := ⟨1, "", "room", [], [[(1, Sum.inl (lead : Int))]], "", (lead : Int), 0, false, List.replicate lead 0⟩
def R2 (lb op : Str) (bs : List Int) (Ls : List (List Pp)) : Rm := ⟨2, lb, op, bs, Ls, "", 0, 0, false, []⟩
def R2p (lb op : Str) (bs : List Int) (Ls : List (List Pp)) (p : Int) (ws : List Int) : Rm := ⟨2, lb, op, bs, Ls, "", 0, p, false, ws⟩
/-- an op of the machine, not the short take -/
structure OpM (o : Str) : Prop where
  n0 : o ≠ ""
  n1 : o ≠ "is"
  n2 : o ≠ "at"
  n3 : o ≠ "room"
  n4 : o ≠ "word"
  n5 : o ≠ "take"
  n6 : o ≠ "macro"
  n7 : o ≠ "end"
theorem opM_of {c : Code} (h : c ∈ codes) : OpM c.1.str := by
  have key : ∀ c ∈ codes, c.1.str ≠ ("" : Str) ∧ c.1.str ≠ ("is" : Str) ∧ c.1.str ≠ ("at" : Str) ∧ c.1.str ≠ ("room" : Str) ∧ c.1.str ≠ ("word" : Str) ∧ c.1.str ≠ ("take" : Str) ∧ c.1.str ≠ ("macro" : Str) ∧ c.1.str ≠ ("end" : Str) := by decide +kernel
  obtain ⟨a, b, c, d, e, f, g, h⟩ := key c h
  exact ⟨a, b, c, d, e, f, g, h⟩
theorem given04 {lead : Nat} {lb op : Str} {bs : List Int} {Ls : List (List Pp)} (hlb : lb = "" ∨ lb = "name") : ∃ g, givenM [R0, R1 lead, R2 lb op bs Ls] [] = .ok g ∧ ("five" : Str) ∈ g := by
  rcases hlb with rfl | rfl
  · exact ⟨["five"], by kernel_rfl, by decide⟩
  · exact ⟨["five", "name"], by kernel_rfl, by decide⟩
theorem known_nil (g : List Str) (n : Int) : isKnownM g [(1, Sum.inl n)] = true := rfl
theorem early_nil (m : List (Str × Int)) (n : Int) : isEarlyM m [(1, Sum.inl n)] = true := rfl
theorem known04 {g : List Str} {lead : Nat} {lb op : Str} {bs : List Int} {Ls : List (List Pp)} (ho : OpM op) (hg : ("five" : Str) ∈ g) (hn : ∀ L ∈ Ls, ∀ x ∈ namesIn L, x = ("five" : Str)) :
    knownM g [R0, R1 lead, R2 lb op bs Ls] [] = .ok [R0, R1a lead, R2 lb op bs Ls] := by
  have hk : Ls.all (isKnownM g) = true := List.all_eq_true.mpr fun L hL => List.all_eq_true.mpr fun x hx => by
    rw [hn L hL x hx, decide_eq_true hg, Bool.or_true]
  have s2 : ∀ early, knownM g [R2 lb op bs Ls] early = .ok [R2 lb op bs Ls] := fun early => by
    unfold knownM
    rw [if_neg (by show ¬ Ls.all (isKnownM g) = false; rw [hk]; decide), if_neg (show ¬ ((R2 lb op bs Ls).op = ("at" : Str) ∨ (R2 lb op bs Ls).op = ("room" : Str)) from fun z => z.elim ho.n2 ho.n3)]
    rfl
  have s1 : ∀ early, knownM g [R1 lead, R2 lb op bs Ls] early = .ok [R1a lead, R2 lb op bs Ls] := fun early => by
    unfold knownM
    rw [if_neg (by show ¬ (isKnownM g [(1, Sum.inl (lead : Int))] && true) = false; rw [known_nil]; decide), if_pos (.inr rfl), if_neg (by show ¬ isEarlyM early [(1, Sum.inl (lead : Int))] = false; rw [early_nil]; decide), s2 early]
    show Except.ok [(⟨1, "", "room", [], [[(1, Sum.inl (lead : Int))]], "", 0 + 1 * (lead : Int), 0, false, []⟩ : Rm), R2 lb op bs Ls] = _
    rw [Int.one_mul, Int.zero_add] <;> rfl
  unfold knownM
  rw [if_neg (by show ¬ (isKnownM g [(1, Sum.inl (5 : Int))] && true) = false; rw [known_nil]; decide), if_neg (fun z => z.elim (by decide) (by decide)), s1]
theorem settled04 {lead : Nat} {lb op : Str} {bs : List Int} {Ls : List (List Pp)} (ho : OpM op) : settledM [R0, R1a lead, R2 lb op bs Ls] = .ok [0] := by
  have e : isRows [R0, R1a lead, R2 lb op bs Ls] = [(R0, 0)] := by
    unfold isRows
    show ([(R0, 0), (R1a lead, 1), (R2 lb op bs Ls, 2)] : List Ri).filter (fun R => decide (R.1.op = ("is" : Str))) = _
    rw [List.filter_cons, if_pos (by decide), List.filter_cons, if_neg (show ¬ decide (((R1a lead, 1) : Ri).1.op = ("is" : Str)) = true from fun z => absurd (show ("room" : Str) = "is" from of_decide_eq_true z) (by decide)), List.filter_cons, if_neg (show ¬ decide (((R2 lb op bs Ls, 2) : Ri).1.op = ("is" : Str)) = true from fun z => ho.n1 (of_decide_eq_true z))]
    rfl
  unfold settledM
  rw [e]
  rfl
/-- where the rows lie -/
def placed04 (lead : Nat) (lb op : Str) (bs : List Int) (Ls : List (List Pp)) : List Rm := [R0, R1a lead, R2p lb op bs Ls lead []]
theorem place04 {lead : Nat} {lb op : Str} {bs : List Int} {Ls : List (List Pp)} (ho : OpM op) : placeM [R0, R1a lead, R2 lb op bs Ls] 0 = placed04 lead lb op bs Ls := by
  show [R0, R1a lead, R2p lb op bs Ls ((0 : Int) + 0 + (lead : Int)) []] = _
  rw [Int.zero_add, Int.zero_add] <;> rfl
theorem size04 {lb op : Str} {bs : List Int} {Ls : List (List Pp)} (ho : OpM op) (p : Int) : sizeM (R2p lb op bs Ls p []) = sizeOp op := by
  unfold sizeM
  have nw : wordless op = false := decide_eq_false (fun z => by
    rcases List.mem_cons.mp z with y | y
    · exact ho.n0 y
    · rcases List.mem_cons.mp y with y | y
      · exact ho.n1 y
      · exact ho.n2 (List.mem_singleton.mp y))
  show (if wordless op = true then (0 : Int) else if op = ("room" : Str) then 0 else if op = ("word" : Str) then Ls.length else if op = ("take" : Str) ∧ false = true then 2 else sizeOp op) = sizeOp op
  rw [if_neg (by rw [nw]; decide), if_neg ho.n3, if_neg ho.n4, if_neg (fun z => ho.n5 z.1)]
theorem end04 {lead : Nat} {lb op : Str} {bs : List Int} {Ls : List (List Pp)} (ho : OpM op) : endM [R0, R1a lead, R2 lb op bs Ls] 0 = lead + sizeOp op := by
  show nextM (R2 lb op bs Ls) ((0 : Int) + 0 + (lead : Int)) = _
  have := size04 (lb := lb) (bs := bs) (Ls := Ls) ho 0
  show (if op = ("at" : Str) then (0 : Int) else (0 : Int) + 0 + (lead : Int) + sizeM (R2 lb op bs Ls)) = _
  rw [if_neg ho.n2, Int.zero_add, Int.zero_add, show sizeM (R2 lb op bs Ls) = sizeOp op from this]
def worths04 (lead : Nat) (lb : Str) : List (Str × Int) := if lb = "" then [("five", 5)] else [(lb, (lead : Int)), ("five", 5)]
theorem worths_04 {lead : Nat} {lb op : Str} {bs : List Int} {Ls : List (List Pp)} (hlb : lb = "" ∨ lb = "name") : worthsM (placed04 lead lb op bs Ls) [0] = worths04 lead lb := by
  rcases hlb with rfl | rfl <;> kernel_rfl
theorem five04 {lead : Nat} {lb : Str} (hlb : lb = "" ∨ lb = "name") : getL (worths04 lead lb) "five" = some 5 := by
  rcases hlb with rfl | rfl <;> kernel_rfl
theorem settle04 {lead : Nat} {lb op : Str} {bs : List Int} {Ls : List (List Pp)} (ho : OpM op) (hlb : lb = "" ∨ lb = "name") : settleM 4 [R0, R1a lead, R2 lb op bs Ls] [0] = some ⟨placed04 lead lb op bs Ls, worths04 lead lb, lead + sizeOp op⟩ := by
  unfold settleM
  rw [place04 ho, worths_04 hlb, end04 ho]
  have e : (placed04 lead lb op bs Ls).any (growing (worths04 lead lb)) = false := by
    show (growing (worths04 lead lb) R0 || (growing (worths04 lead lb) (R1a lead) || (growing (worths04 lead lb) (R2p lb op bs Ls lead []) || false))) = false
    have g0 : growing (worths04 lead lb) R0 = false := rfl
    have g1 : growing (worths04 lead lb) (R1a lead) = false := rfl
    have g2 : growing (worths04 lead lb) (R2p lb op bs Ls lead []) = false := by
      unfold growing
      rw [decide_eq_false (show ¬ (R2p lb op bs Ls lead []).op = ("take" : Str) from ho.n5), Bool.false_and]
    rw [g0, g1, g2] <;> rfl
  rw [if_neg (by rw [e]; decide)]
theorem room04 {lead : Nat} {lb op : Str} {bs : List Int} {Ls : List (List Pp)} (ho : OpM op) (h0 : 0 ≤ sizeOp op) (h : (lead : Int) + sizeOp op ≤ 256) : roomM (placed04 lead lb op bs Ls) = .ok () := by
  have e0 : sizeM R0 = 0 := rfl
  have e1 : sizeM (R1a lead) = (lead : Int) := rfl
  have e2 := size04 (lb := lb) (bs := bs) (Ls := Ls) ho lead
  unfold placed04 roomM
  rw [if_neg (fun z => z.elim (fun y => absurd y.1 (by decide)) (fun y => by rw [e0] at y; exact absurd y (by decide)))]
  unfold roomM
  rw [if_neg (fun z => z.elim (fun y => absurd (show ("room" : Str) = "at" from y.1) (by decide)) (fun y => by rw [e1] at y; have p : (R1a lead).place = 0 := rfl; omega))]
  unfold roomM
  rw [if_neg (fun z => z.elim (fun y => ho.n2 y.1) (fun y => by rw [e2] at y; have p : (R2p lb op bs Ls lead []).place = lead := rfl; omega))]
  rfl
/-- what the row writes -/
theorem words04 {mm : List (Str × Int)} {lead : Nat} {lb op : Str} {bs ns : List Int} {Ls : List (List Pp)} (ho : OpM op) (h : mapE (fun L => fitM (R2p lb op bs Ls lead []) (worthM mm lead L)) Ls = .ok ns) : wordsAll mm (placed04 lead lb op bs Ls) = .ok [R0, R1w lead, R2p lb op bs Ls lead (firstW op bs :: ns)] := by
  have nw : wordless op = false := decide_eq_false (fun z => by
    rcases List.mem_cons.mp z with y | y
    · exact ho.n0 y
    · rcases List.mem_cons.mp y with y | y
      · exact ho.n1 y
      · exact ho.n2 (List.mem_singleton.mp y))
  have w0 : wordsR mm R0 = .ok R0 := rfl
  have w1 : wordsR mm (R1a lead) = .ok (R1w lead) := rfl
  have w2 : wordsR mm (R2p lb op bs Ls lead []) = .ok (R2p lb op bs Ls lead (firstW op bs :: ns)) := by
    have e : wordsM mm (R2p lb op bs Ls lead []) = .ok (firstW op bs :: ns) := by
      unfold wordsM
      rw [if_neg (show ¬ wordless (R2p lb op bs Ls lead []).op = true from fun z => by have : wordless op = true := z; rw [nw] at this; cases this), if_neg (show ¬ (R2p lb op bs Ls lead []).op = ("room" : Str) from ho.n3)]
      show (match mapE (fun L => fitM (R2p lb op bs Ls lead []) (worthM mm lead L)) Ls with | .error e => (.error e : Re (List Int)) | .ok ns => if op = ("word" : Str) then .ok ns else if op = ("take" : Str) ∧ false = false then .ok [144 + 8 * bs.headD 0 + ns.headD 0] else .ok (firstW (if op = ("take" : Str) then "take!" else op) bs :: ns)) = _
      rw [h]
      simp only
      rw [if_neg ho.n4, if_neg (fun z => ho.n5 z.1), if_neg ho.n5]
    unfold wordsR
    rw [e] <;> rfl
  exact mapE_ok w0 (mapE_ok w1 (mapE_ok w2 rfl))
theorem written04 {lead : Nat} {lb op : Str} {bs ws : List Int} {Ls : List (List Pp)} {mm : List (Str × Int)} {stop : Int} (h : stop = (lead : Int) + ws.length) : writtenP ⟨[R0, R1w lead, R2p lb op bs Ls lead ws], mm, stop⟩ = List.replicate lead 0 ++ ws := by
  unfold writtenP
  show layM (layM (layM (List.replicate stop.toNat 0) R0) (R1w lead)) (R2p lb op bs Ls lead ws) = _
  have es : stop.toNat = lead + ws.length := by omega
  rw [es]
  have l0 : layM (List.replicate (lead + ws.length) 0) R0 = List.replicate (lead + ws.length) 0 := by
    unfold layM
    show (List.replicate (lead + ws.length) 0).take 0 ++ [] ++ (List.replicate (lead + ws.length) 0).drop (0 + 0) = _
    rw [List.take_zero, Nat.add_zero, List.drop_zero] <;> rfl
  have l1 : layM (List.replicate (lead + ws.length) 0) (R1w lead) = List.replicate (lead + ws.length) 0 := by
    unfold layM
    show (List.replicate (lead + ws.length) (0 : Int)).take 0 ++ List.replicate lead 0 ++ (List.replicate (lead + ws.length) 0).drop (0 + (List.replicate lead (0 : Int)).length) = _
    rw [List.take_zero, List.nil_append, List.length_replicate, Nat.zero_add, List.drop_replicate, List.replicate_append_replicate]
    congr 1
    omega
  rw [l0, l1]
  unfold layM
  show (List.replicate (lead + ws.length) (0 : Int)).take (lead : Int).toNat ++ ws ++ (List.replicate (lead + ws.length) 0).drop ((lead : Int).toNat + ws.length) = _
  rw [Int.toNat_natCast, List.take_replicate, List.drop_replicate, Nat.sub_self, Nat.min_eq_left (by omega)]
  simp
theorem listed04 {lead : Nat} {lb op : Str} {bs ws : List Int} {Ls : List (List Pp)} {mm : List (Str × Int)} {stop : Int} (h : ws ≠ []) : listedP ⟨[R0, R1w lead, R2p lb op bs Ls lead ws], mm, stop⟩ = (if lead = 0 then [] else [(1, 0, List.replicate lead 0)]) ++ [(2, (lead : Int), ws)] := by
  unfold listedP
  show (([R0, R1w lead, R2p lb op bs Ls lead ws]).filter fun R => decide (R.words ≠ [])).map (fun R => (R.row, R.place, R.words)) = _
  rw [List.filter_cons, if_neg (show ¬ decide (R0.words ≠ []) = true by decide), List.filter_cons, List.filter_cons, List.filter_nil, if_pos (show decide ((R2p lb op bs Ls lead ws).words ≠ []) = true from decide_eq_true h)]
  by_cases q : lead = 0
  · subst q
    rw [if_neg (show ¬ decide ((R1w 0).words ≠ []) = true by decide), if_pos rfl]
    rfl
  · have : (R1w lead).words ≠ [] := fun z => by
      have : (List.replicate lead (0 : Int)).length = 0 := by
        show (R1w lead).words.length = 0
        rw [z] <;> rfl
      rw [List.length_replicate] at this
      exact q this
    rw [if_pos (decide_eq_true this), if_neg q]
    rfl
end Rs
/-! The text of three rows, as it is written and read -/
namespace Rs
open PySem PySem.Spec PyProof.Rows L2 SX
def opL (o : Str) : List Nat := o.cps.toList
theorem opL_S (o : Str) : S (opL o) = o := S_tl o
def boxL (b : Nat) : List Nat := [114, 48 + b]
def preL (i : Nat) : List Nat := if i = 1 then [110, 97, 109, 101, 58, 32] else if i = 2 then [32, 32] else []
def sufL (i : Nat) : List Nat := if i = 1 then [32] else if i = 2 then [32, 59, 32, 115, 116, 111, 112] else if i = 3 then [59] else []
def rowL (i k j : Nat) (W : List (List Nat)) : List Nat := preL i ++ TL.joinL (List.replicate (k + 1) 32) W ++ sufL j
def lblW (i : Nat) : List Str := if i = 1 then ["name:"] else []
def lblN (i : Nat) : Str := if i = 1 then "name" else ""
/-- a word of a row: no blank, no mark, no line's end -/
def WordOk (w : List Nat) : Prop := w ≠ [] ∧ ∀ c ∈ w, c ≠ 32 ∧ c ≠ 59 ∧ c ≠ 10 ∧ c < 0x110000
theorem joinL_mem {sep : List Nat} {c : Nat} : ∀ {W : List (List Nat)}, c ∈ TL.joinL sep W → c ∈ sep ∨ ∃ w ∈ W, c ∈ w
  | [], h => by cases h
  | [w], h => .inr ⟨w, List.mem_cons_self, h⟩
  | w :: v :: r, h => by
    have h : c ∈ w ++ (sep ++ TL.joinL sep (v :: r)) := h
    rcases List.mem_append.mp h with z | z
    · exact .inr ⟨w, List.mem_cons_self, z⟩
    · rcases List.mem_append.mp z with y | y
      · exact .inl y
      · rcases joinL_mem y with x | ⟨u, hu, x⟩
        · exact .inl x
        · exact .inr ⟨u, List.mem_cons_of_mem _ hu, x⟩
theorem join_signs {k : Nat} {W : List (List Nat)} (h : ∀ w ∈ W, WordOk w) : ∀ c ∈ TL.joinL (List.replicate (k + 1) 32) W, c ≠ 59 ∧ c ≠ 10 ∧ c < 0x110000 := fun c hc => by
  rcases joinL_mem hc with z | ⟨w, hw, z⟩
  · rw [(List.mem_replicate.mp z).2]
    decide
  · exact ⟨(h w hw).2 c z |>.2.1, ((h w hw).2 c z).2.2.1, ((h w hw).2 c z).2.2.2⟩
theorem pre_signs (i : Nat) : ∀ c ∈ preL i, c ≠ 59 ∧ c ≠ 10 ∧ c < 0x110000 := fun c hc => by
  unfold preL at hc
  split at hc
  · have key : ∀ c ∈ ([110, 97, 109, 101, 58, 32] : List Nat), c ≠ 59 ∧ c ≠ 10 ∧ c < 0x110000 := by decide
    exact key c hc
  · split at hc
    · have key : ∀ c ∈ ([32, 32] : List Nat), c ≠ 59 ∧ c ≠ 10 ∧ c < 0x110000 := by decide
      exact key c hc
    · cases hc
theorem suf_signs (j : Nat) : ∀ c ∈ sufL j, c ≠ 10 ∧ c < 0x110000 := fun c hc => by
  unfold sufL at hc
  split at hc
  · have key : ∀ c ∈ ([32] : List Nat), c ≠ 10 ∧ c < 0x110000 := by decide
    exact key c hc
  · split at hc
    · have key : ∀ c ∈ ([32, 59, 32, 115, 116, 111, 112] : List Nat), c ≠ 10 ∧ c < 0x110000 := by decide
      exact key c hc
    · split at hc
      · have key : ∀ c ∈ ([59] : List Nat), c ≠ 10 ∧ c < 0x110000 := by decide
        exact key c hc
      · cases hc
theorem name_colon : ("name:" : Str) = S [110, 97, 109, 101, 58] := by decide +kernel
theorem row_words {i k j : Nat} {W : List (List Nat)} (h : ∀ w ∈ W, WordOk w) : rowWords (S (rowL i k j W)) = lblW i ++ W.map S := by
  have hw : ∀ w ∈ W, 32 ∉ w ∧ w ≠ [] := fun w hw => ⟨fun z => ((h w hw).2 32 z).1 rfl, (h w hw).1⟩
  have hj := join_signs (k := k) h
  have body : ∀ b : Nat, wl (preL i ++ TL.joinL (List.replicate (k + 1) 32) W ++ List.replicate b 32) = (if i = 1 then [[110, 97, 109, 101, 58]] else []) ++ W := fun b => by
    have e := wl_join (ws := W) k b hw
    unfold preL
    by_cases q1 : i = 1
    · rw [if_pos q1, if_pos q1]
      show wl ([110, 97, 109, 101, 58] ++ 32 :: (TL.joinL (List.replicate (k + 1) 32) W ++ List.replicate b 32)) = _
      rw [wl_word _ (by decide) (by decide), e]
      rfl
    · rw [if_neg q1, if_neg q1]
      by_cases q2 : i = 2
      · rw [if_pos q2]
        show wl (32 :: 32 :: (TL.joinL (List.replicate (k + 1) 32) W ++ List.replicate b 32)) = _
        rw [wl_blank, wl_blank, e]
        rfl
      · rw [if_neg q2]
        exact e
  have no59 : 59 ∉ preL i ++ TL.joinL (List.replicate (k + 1) 32) W := fun z => by
    rcases List.mem_append.mp z with y | y
    · exact (pre_signs i 59 y).1 rfl
    · exact (hj 59 y).1 rfl
  have no59b : 59 ∉ preL i ++ TL.joinL (List.replicate (k + 1) 32) W ++ [32] := fun z => by
    rcases List.mem_append.mp z with y | y
    · exact no59 y
    · exact absurd (List.mem_singleton.mp y) (by decide)
  have lb : ((if i = 1 then [[110, 97, 109, 101, 58]] else []) ++ W).map S = lblW i ++ W.map S := by
    unfold lblW
    rw [List.map_append]
    by_cases q1 : i = 1
    · rw [if_pos q1, if_pos q1, name_colon] <;> rfl
    · rw [if_neg q1, if_neg q1] <;> rfl
  have b0 := body 0
  have b1 := body 1
  rw [List.replicate_zero, List.append_nil] at b0
  unfold rowL sufL
  by_cases q1 : j = 1
  · rw [if_pos q1, rowWords_plain no59b]
    show (wl (preL i ++ TL.joinL (List.replicate (k + 1) 32) W ++ List.replicate 1 32)).map S = _
    rw [b1, lb]
  rw [if_neg q1]
  by_cases q2 : j = 2
  · rw [if_pos q2]
    have := rowWords_mark [32, 115, 116, 111, 112] no59b
    rw [List.append_assoc] at this
    have e2 : ([32] ++ 59 :: [32, 115, 116, 111, 112] : List Nat) = [32, 59, 32, 115, 116, 111, 112] := rfl
    rw [e2] at this
    rw [this]
    show (wl (preL i ++ TL.joinL (List.replicate (k + 1) 32) W ++ List.replicate 1 32)).map S = _
    rw [b1, lb]
  rw [if_neg q2]
  by_cases q3 : j = 3
  · rw [if_pos q3, rowWords_mark [] no59, b0, lb]
  · rw [if_neg q3, List.append_nil, rowWords_plain no59, b0, lb]
/-! ### what the words of the row come to -/
theorem box_ok (n : Int) : ∀ b < 4, boxM (F0 n) (S (boxL b)) = .ok (b : Int) := fun b hb => by
  have key : ∀ b < 4, getL boxVals (S (boxL b)) = some (b : Int) := by decide +kernel
  unfold boxM
  have k0 : getL (F0 n).boxes (S (boxL b)) = none := rfl
  simp only [k0, key b hb]
theorem op_facts {c : Code} (h : c ∈ codes) : Txt.endswith c.1.str ":" = false ∧ shapeM c.1.str = some (c.2.2.1, c.2.2.2) ∧ sizeOp c.1.str = 1 + (c.2.2.2 : Int) ∧ WordOk (opL c.1.str) ∧ c.2.2.2 ≤ 2 ∧ c.2.2.1 ≤ 2 ∧ (opL c.1.str).length ≤ 5 := by
  have key : ∀ c ∈ codes, Txt.endswith c.1.str ":" = false ∧ shapeM c.1.str = some (c.2.2.1, c.2.2.2) ∧ sizeOp c.1.str = 1 + (c.2.2.2 : Int) ∧ (opL c.1.str ≠ [] ∧ ∀ x ∈ opL c.1.str, x ≠ 32 ∧ x ≠ 59 ∧ x ≠ 10 ∧ x < 0x110000) ∧ c.2.2.2 ≤ 2 ∧ c.2.2.1 ≤ 2 ∧ (opL c.1.str).length ≤ 5 := by decide +kernel
  exact key c h
theorem row2_ok {c : Code} (hc : c ∈ codes) {i : Nat} {bs : List Nat} {zs : List (List Nat)} {Ls : List (List Pp)} (hb : bs.length = c.2.2.1) (hb4 : ∀ b ∈ bs, b < 4) (hz : zs.length = c.2.2.2) (hs : mapE (sumM (F0 2)) (zs.map S) = .ok Ls) :
    rowI (2, lblW i ++ (opL c.1.str :: (bs.map boxL ++ zs)).map S) = .ok (R2 (lblN i) c.1.str (bs.map fun b : Nat => (b : Int)) Ls) := by
  obtain ⟨f1, f2, f3, f4, _⟩ := op_facts hc
  have ho := opM_of hc
  have fill : ∀ R : Rm, fillM (F0 2) R (c.1.str :: (bs.map boxL ++ zs).map S) = .ok { R with op := c.1.str, boxes := bs.map fun b : Nat => (b : Int), sums := Ls } := fun R => by
    unfold fillM
    simp only
    rw [if_neg ho.n4, if_neg ho.n1]
    unfold shapedM
    simp only [f2]
    have l0 : ((bs.map boxL ++ zs).map S).length = c.2.2.1 + c.2.2.2 := by
      rw [List.length_map, List.length_append, List.length_map, hb, hz]
    have t0 : ((bs.map boxL ++ zs).map S).take c.2.2.1 = (bs.map boxL).map S := by
      rw [List.map_append, List.take_left' (by rw [List.length_map, List.length_map, hb])]
    have d0 : ((bs.map boxL ++ zs).map S).drop c.2.2.1 = zs.map S := by
      rw [List.map_append, List.drop_left' (by rw [List.length_map, List.length_map, hb])]
    have eb : mapE (boxM (F0 2)) ((bs.map boxL).map S) = .ok (bs.map fun b : Nat => (b : Int)) := by
      clear hb l0 t0 d0
      induction bs with
      | nil => rfl
      | cons b r ih => exact mapE_ok (box_ok 2 b (hb4 b List.mem_cons_self)) (ih fun x hx => hb4 x (List.mem_cons_of_mem _ hx))
    rw [if_neg (fun z => z l0), t0, d0, eb]
    simp only
    rw [hs]
  have e1 : (opL c.1.str :: (bs.map boxL ++ zs)).map S = c.1.str :: (bs.map boxL ++ zs).map S := by
    rw [List.map_cons, opL_S]
  rw [e1]
  unfold lblW lblN rowI
  by_cases q : i = 1
  · rw [if_pos q, if_pos q]
    show (if Txt.endswith ("name:" : Str) ":" = true then match nameM (F0 2) (Txt.slice ("name:" : Str) none (some (-1))) with | .error z => (.error z : Re Rm) | .ok n => if c.1.str :: (bs.map boxL ++ zs).map S = [] then .ok { Rm.new 2 with label := n } else fillM (F0 2) { Rm.new 2 with label := n } (c.1.str :: (bs.map boxL ++ zs).map S) else _) = _
    rw [if_pos (by decide +kernel)]
    have en : nameM (F0 2) (Txt.slice ("name:" : Str) none (some (-1))) = .ok "name" := by kernel_rfl
    rw [en]
    simp only
    rw [if_neg (List.cons_ne_nil _ _), fill] <;> rfl
  · rw [if_neg q, if_neg q]
    simp only [List.nil_append]
    rw [if_neg (by rw [f1]; decide), fill] <;> rfl
theorem row0_ok : rowI (0, [("is" : Str), "five", "5"]) = .ok R0 := by kernel_rfl
theorem room_S : ("room" : Str) = S [114, 111, 111, 109] := by decide +kernel
theorem row1_ok {lead : Nat} (h : lead < 10000) : rowI (1, [("room" : Str), S (TL.numL lead)]) = .ok (R1 lead) := by
  have es : sumM (F0 1) (S (TL.numL lead)) = .ok [(1, Sum.inl (lead : Int))] := by
    have := sum_parts (F := F0 1) (ps := [(1, TL.numL lead)]) (ks := [Sum.inl (lead : Int)]) (by simp) (fun e he => by rw [List.mem_singleton.mp he]; exact ⟨num_noCut lead, TL.numL_ne lead, .inl rfl⟩) (by simp) rfl (fun i e k he hk => by
      cases i with
      | zero =>
        cases he
        cases hk
        exact part_num h
      | succ i => cases he)
    exact this
  unfold rowI
  simp only
  rw [if_neg (show ¬ Txt.endswith ("room" : Str) ":" = true by decide +kernel)]
  show (match mapE (boxM (F0 1)) [] with | .error e => (.error e : Re Rm) | .ok bs => match mapE (sumM (F0 1)) [S (TL.numL lead)] with | .error e => .error e | .ok ss => .ok { Rm.new 1 with op := "room", boxes := bs, sums := ss }) = _
  rw [mapE_ok es (show mapE (sumM (F0 1)) [] = .ok [] from rfl)]
  rfl
def isfL : List Nat := [105, 115, 32, 102, 105, 118, 101, 32, 53]
def roomL (lead : Nat) : List Nat := [114, 111, 111, 109, 32] ++ TL.numL lead
def textL (i k j lead : Nat) (W : List (List Nat)) : List Nat := TL.joinL [10] [isfL, roomL lead, rowL i k j W]
end Rs
/-! The text of three rows: its page -/
namespace Rs
open PySem PySem.Spec PyProof.Rows L2 SX
/-- a number in a form: the number, what is added, which form -/
abbrev Nf := Int × Nat × Nat
def nfL (x : Nf) : List Nat := sumL (asP x.1 x.2.1 x.2.2)
def nfS (x : Nf) : List Pp := asL x.1 x.2.1 x.2.2
def NfOk (x : Nf) : Prop := -400 ≤ x.1 ∧ x.1 ≤ 400 ∧ x.2.1 ≤ 400
theorem num_word (n : Nat) : ∀ c ∈ TL.numL n, c ≠ 32 ∧ c ≠ 59 ∧ c ≠ 10 ∧ c < 0x110000 := fun c hc => by
  have := TL.numL_digits n c hc
  omega
theorem nf_word {x : Nf} (h : NfOk x) : WordOk (nfL x) ∧ (nfL x).length ≤ 8 := by
  obtain ⟨n, m, f⟩ := x
  obtain ⟨h0, h1, h2⟩ := h
  simp only at h0 h1 h2
  have ln : ∀ k : Nat, k < 1000 → (TL.numL k).length ≤ 3 := fun k hk => TL.numL_len (by decide) hk
  have fw : ∀ c ∈ five, c ≠ 32 ∧ c ≠ 59 ∧ c ≠ 10 ∧ c < 0x110000 := by decide
  have one : ∀ (s : Int) (p : List Nat), (∀ c ∈ p, c ≠ 32 ∧ c ≠ 59 ∧ c ≠ 10 ∧ c < 0x110000) → p ≠ [] → p.length ≤ 3 → WordOk (sumL [(s, p)]) ∧ (sumL [(s, p)]).length ≤ 8 := fun s p hp hn hl => by
    show WordOk ((if s = -1 then [45] else []) ++ p) ∧ ((if s = -1 then [45] else []) ++ p).length ≤ 8
    by_cases q : s = -1
    · rw [if_pos q]
      refine ⟨⟨by simp, fun c hc => ?_⟩, by rw [List.length_append]; show 1 + p.length ≤ 8; omega⟩
      rcases List.mem_append.mp hc with z | z
      · rw [List.mem_singleton.mp z]; decide
      · exact hp c z
    · rw [if_neg q]
      exact ⟨⟨hn, hp⟩, by show p.length ≤ 8; omega⟩
  have two : ∀ (s t : Int) (p q : List Nat), (∀ c ∈ p, c ≠ 32 ∧ c ≠ 59 ∧ c ≠ 10 ∧ c < 0x110000) → (∀ c ∈ q, c ≠ 32 ∧ c ≠ 59 ∧ c ≠ 10 ∧ c < 0x110000) → (if s = -1 then [45] else [] : List Nat).length + p.length ≤ 4 → q.length ≤ 3 → WordOk (sumL [(s, p), (t, q)]) ∧ (sumL [(s, p), (t, q)]).length ≤ 8 := fun s t p q hp hq lp lq => by
    show WordOk ((if s = -1 then [45] else []) ++ p ++ (if t = -1 then 45 else 43) :: q) ∧ ((if s = -1 then [45] else []) ++ p ++ (if t = -1 then 45 else 43) :: q).length ≤ 8
    have es : ∀ c ∈ (if s = -1 then [45] else [] : List Nat), c ≠ 32 ∧ c ≠ 59 ∧ c ≠ 10 ∧ c < 0x110000 := fun c hc => by
      split at hc
      · rw [List.mem_singleton.mp hc]; decide
      · cases hc
    refine ⟨⟨by simp, fun c hc => ?_⟩, by rw [List.length_append, List.length_append, List.length_cons]; omega⟩
    rcases List.mem_append.mp hc with z | z
    · rcases List.mem_append.mp z with y | y
      · exact es c y
      · exact hp c y
    · rcases List.mem_cons.mp z with y | y
      · rw [y]
        split <;> decide
      · exact hq c y
  unfold nfL asP
  simp only
  by_cases q0 : f = 0
  · rw [if_pos q0]
    exact one _ _ (num_word _) (TL.numL_ne _) (by have := ln n.natAbs (by omega); omega)
  rw [if_neg q0]
  by_cases q1 : f = 1
  · rw [if_pos q1]
    split
    · exact two _ _ _ _ (num_word _) (num_word _) (by have := ln (n + m).toNat (by omega); show 0 + _ ≤ 4; omega) (ln _ (by omega))
    · exact two _ _ _ _ (num_word _) (num_word _) (by have := ln (m - n).toNat (by omega); show 1 + _ ≤ 4; omega) (ln _ (by omega))
  · rw [if_neg q1]
    split
    · exact two _ _ _ _ fw (num_word _) (by decide) (ln _ (by omega))
    · exact two _ _ _ _ fw (num_word _) (by decide) (ln _ (by omega))
theorem nf_sums {F : Fm} (hb : F.boxes = []) (hs : F.sums = []) : ∀ {xs : List Nf}, (∀ x ∈ xs, NfOk x) → mapE (sumM F) ((xs.map nfL).map S) = .ok (xs.map nfS)
  | [], _ => rfl
  | x :: r, h => by
    obtain ⟨h0, h1, h2⟩ := h x List.mem_cons_self
    exact mapE_ok (as_sum (by omega) (by omega) (by omega) hb hs) (nf_sums hb hs fun y hy => h y (List.mem_cons_of_mem _ hy))
theorem nf_fits {mm : List (Str × Int)} {here : Int} {R : Rm} (h5 : getL mm "five" = some 5) : ∀ {xs : List Nf} {ns : List Int}, mapE (fun x : Nf => fitM R x.1) xs = .ok ns → mapE (fun L => fitM R (worthM mm here L)) (xs.map nfS) = .ok ns
  | [], ns, h => h
  | x :: r, ns, h => by
    obtain ⟨b, bs, e1, e2, rfl⟩ := mapE_split h
    refine mapE_ok ?_ (nf_fits h5 e2)
    show fitM R (worthM mm here (asL x.1 x.2.1 x.2.2)) = .ok b
    rw [as_worth h5]
    exact e1
theorem box_word : ∀ b < 4, WordOk (boxL b) ∧ (boxL b).length ≤ 8 := fun b hb => by
  refine ⟨⟨by simp [boxL], fun c hc => ?_⟩, by simp [boxL]⟩
  unfold boxL at hc
  rcases List.mem_cons.mp hc with z | z
  · rw [z]; decide
  · rw [List.mem_singleton.mp z]; omega
def w04 (c : Code) (bs : List Nat) (xs : List Nf) : List (List Nat) := opL c.1.str :: (bs.map boxL ++ xs.map nfL)
theorem w04_ok {c : Code} (hc : c ∈ codes) {bs : List Nat} {xs : List Nf} (hb4 : ∀ b ∈ bs, b < 4) (hx : ∀ x ∈ xs, NfOk x) : ∀ u ∈ w04 c bs xs, WordOk u ∧ u.length ≤ 8 := fun u hu => by
  rcases List.mem_cons.mp hu with z | z
  · rw [z]
    obtain ⟨_, _, _, f4, _, _, f7⟩ := op_facts hc
    exact ⟨f4, by omega⟩
  · rcases List.mem_append.mp z with y | y
    · obtain ⟨b, hb, rfl⟩ := List.mem_map.mp y
      exact box_word b (hb4 b hb)
    · obtain ⟨x, hx', rfl⟩ := List.mem_map.mp y
      exact nf_word (hx x hx')
theorem joinL_len {k M : Nat} : ∀ {W : List (List Nat)}, (∀ u ∈ W, u.length ≤ M) → (TL.joinL (List.replicate k 32) W).length ≤ W.length * (M + k)
  | [], _ => by show 0 ≤ _; omega
  | [u], h => by
    have := h u List.mem_cons_self
    show u.length ≤ 1 * (M + k)
    omega
  | u :: v :: r, h => by
    have a := h u List.mem_cons_self
    have b := joinL_len (k := k) fun x hx => h x (List.mem_cons_of_mem u hx)
    show (u ++ (List.replicate k 32 ++ TL.joinL (List.replicate k 32) (v :: r))).length ≤ _
    rw [List.length_append, List.length_append, List.length_replicate]
    have e : (u :: v :: r).length * (M + k) = (v :: r).length * (M + k) + (M + k) := by
      rw [List.length_cons (a := u), Nat.add_mul, Nat.one_mul]
    omega
theorem mapE_len {α β : Type} {f : α → Re β} : ∀ {xs : List α} {ys : List β}, mapE f xs = .ok ys → ys.length = xs.length
  | [], ys, h => by rw [← Except.ok.inj h] <;> rfl
  | x :: r, ys, h => by
    obtain ⟨b, bs, _, e2, rfl⟩ := mapE_split h
    rw [List.length_cons, List.length_cons, mapE_len e2]
theorem isf_words : rowWords (S isfL) = [("is" : Str), "five", "5"] := by decide +kernel
theorem room_words (lead : Nat) : rowWords (S (roomL lead)) = [("room" : Str), S (TL.numL lead)] := by
  have h59 : 59 ∉ roomL lead := fun z => by
    rcases List.mem_append.mp z with y | y
    · exact absurd y (by decide)
    · exact (num_word lead 59 y).2.1 rfl
  rw [rowWords_plain h59]
  have e : roomL lead = [114, 111, 111, 109] ++ 32 :: TL.numL lead := rfl
  rw [e, wl_word _ (by decide) (by decide), wl_last (fun z => (num_word lead 32 z).1 rfl) (TL.numL_ne lead), room_S]
  rfl
/-- what the law's three rows come to -/
theorem text04 {c : Code} (hc : c ∈ codes) {i k j lead : Nat} (hk : k < 3) (hl : lead < 60) {bs : List Nat} {xs : List Nf} {ns : List Int} (hb : bs.length = c.2.2.1) (hb4 : ∀ b ∈ bs, b < 4) (hx : xs.length = c.2.2.2) (hxo : ∀ x ∈ xs, NfOk x)
    (hf : mapE (fun x : Nf => fitM (R2p (lblN i) c.1.str (bs.map fun b : Nat => (b : Int)) (xs.map nfS) lead []) x.1) xs = .ok ns) :
    TextOk (S (textL i k j lead (w04 c bs xs))) ∧ PlainL (linesOf (S (textL i k j lead (w04 c bs xs)))) ∧ ∃ pg, pageM (S (textL i k j lead (w04 c bs xs))) = .ok pg ∧
      writtenP pg = List.replicate lead 0 ++ (firstW c.1.str (bs.map fun b : Nat => (b : Int)) :: ns) ∧
      listedP pg = (if lead = 0 then [] else [(1, 0, List.replicate lead 0)]) ++ [(2, (lead : Int), firstW c.1.str (bs.map fun b : Nat => (b : Int)) :: ns)] := by
  have hw := w04_ok hc (xs := xs) hb4 hxo
  have hw' : ∀ u ∈ w04 c bs xs, WordOk u := fun u hu => (hw u hu).1
  obtain ⟨f1, f2, f3, f4, f5, f6, f7⟩ := op_facts hc
  have ho := opM_of hc
  have hlb : lblN i = "" ∨ lblN i = "name" := by
    unfold lblN
    split
    · exact .inr rfl
    · exact .inl rfl
  have rows3 : ∀ P : List Nat → Prop, P isfL → P (roomL lead) → P (rowL i k j (w04 c bs xs)) → ∀ r ∈ [isfL, roomL lead, rowL i k j (w04 c bs xs)], P r := fun P p1 p2 p3 r hr => by
    rcases List.mem_cons.mp hr with z | z
    · rw [z]; exact p1
    · rcases List.mem_cons.mp z with z | z
      · rw [z]; exact p2
      · rw [List.mem_singleton.mp z]; exact p3
  have rowS : ∀ x ∈ rowL i k j (w04 c bs xs), x ≠ 10 ∧ x < 0x110000 := fun x hx => by
    rcases List.mem_append.mp hx with z | z
    · rcases List.mem_append.mp z with y | y
      · exact (pre_signs i x y).2
      · exact (join_signs hw' x y).2
    · exact suf_signs j x z
  have roomS : ∀ x ∈ roomL lead, x ≠ 10 ∧ x < 0x110000 := fun x hx => by
    rcases List.mem_append.mp hx with z | z
    · have key : ∀ x ∈ ([114, 111, 111, 109, 32] : List Nat), x ≠ 10 ∧ x < 0x110000 := by decide
      exact key x z
    · exact (num_word lead x z).2.2
  have isS : ∀ x ∈ isfL, x ≠ 10 ∧ x < 0x110000 := by decide
  have no10 : ∀ r ∈ [isfL, roomL lead, rowL i k j (w04 c bs xs)], 10 ∉ r := rows3 (fun r => 10 ∉ r) (fun z => (isS 10 z).1 rfl) (fun z => (roomS 10 z).1 rfl) (fun z => (rowS 10 z).1 rfl)
  have lW : (w04 c bs xs).length ≤ 5 := by
    unfold w04
    rw [List.length_cons, List.length_append, List.length_map, List.length_map, hb, hx]
    have key : ∀ c ∈ codes, c.2.2.1 + c.2.2.2 ≤ 4 := by decide +kernel
    have := key c hc
    omega
  have lR : (rowL i k j (w04 c bs xs)).length ≤ 100 := by
    unfold rowL
    rw [List.length_append, List.length_append]
    have a : (preL i).length ≤ 6 := by unfold preL; split; · decide
                                       split <;> decide
    have b : (sufL j).length ≤ 7 := by unfold sufL; split; · decide
                                       split; · decide
                                       split <;> decide
    have e := joinL_len (k := k + 1) (M := 8) fun u hu => (hw u hu).2
    have : (w04 c bs xs).length * (8 + (k + 1)) ≤ 5 * 11 := Nat.mul_le_mul lW (by omega)
    omega
  have l2 : (roomL lead).length ≤ 100 := by
    unfold roomL
    rw [List.length_append]
    have := TL.numL_len (n := lead) (k := 2) (by decide) (by omega)
    show 5 + _ ≤ 100
    omega
  have hT : TextOk (S (textL i k j lead (w04 c bs xs))) := textOk_join (by simp) no10 (rows3 (fun r => r.length ≤ 100) (by decide) l2 lR) (rows3 (fun r => ∀ x ∈ r, x < 0x110000) (fun x hx => (isS x hx).2) (fun x hx => (roomS x hx).2) (fun x hx => (rowS x hx).2)) (by show 3 ≤ 900; decide)
  have hL : linesOf (S (textL i k j lead (w04 c bs xs))) = [[("is" : Str), "five", "5"], [("room" : Str), S (TL.numL lead)], lblW i ++ (w04 c bs xs).map S] := by
    unfold textL
    rw [lines_join (by simp) no10, List.map_cons, List.map_cons, List.map_cons, List.map_nil, isf_words, room_words, row_words hw']
  have opn : c.1.str ≠ "macro" ∧ c.1.str ≠ "end" := ⟨ho.n6, ho.n7⟩
  have eW : (w04 c bs xs).map S = c.1.str :: (bs.map boxL ++ xs.map nfL).map S := by
    unfold w04
    rw [List.map_cons, opL_S]
  have hP : PlainL (linesOf (S (textL i k j lead (w04 c bs xs)))) := by
    rw [hL]
    intro ws hws
    rcases List.mem_cons.mp hws with z | z
    · rw [z]; decide
    · rcases List.mem_cons.mp z with z | z
      · rw [z]
        exact ⟨fun y => absurd (Option.some.inj y) (by decide), fun y => absurd (List.cons.inj y).1 (by decide)⟩
      · rw [List.mem_singleton.mp z, eW]
        unfold lblW
        split
        · exact ⟨fun y => absurd (Option.some.inj y) (by decide), fun y => absurd (List.cons.inj y).1 (by decide)⟩
        · exact ⟨fun y => opn.1 (Option.some.inj y), fun y => opn.2 (List.cons.inj y).1⟩
  refine ⟨hT, hP, ?_⟩
  have eR : readM (linesOf (S (textL i k j lead (w04 c bs xs)))) = .ok [R0, R1 lead, R2 (lblN i) c.1.str (bs.map fun b : Nat => (b : Int)) (xs.map nfS)] := by
    have hn : numbered (linesOf (S (textL i k j lead (w04 c bs xs)))) 0 = [(0, [("is" : Str), "five", "5"]), (1, [("room" : Str), S (TL.numL lead)]), (2, lblW i ++ (w04 c bs xs).map S)] := by
      rw [hL]
      have nn : lblW i ++ (w04 c bs xs).map S ≠ [] := by
        rw [eW]
        simp
      show (0, [("is" : Str), "five", "5"]) :: (1, [("room" : Str), S (TL.numL lead)]) :: (if lblW i ++ (w04 c bs xs).map S = [] then [] else [(2, lblW i ++ (w04 c bs xs).map S)]) = _
      rw [if_neg nn]
    refine read_plain hP ?_ ?_
    · rw [hn]
      refine mapE_ok row0_ok (mapE_ok (row1_ok (by omega)) (mapE_ok ?_ rfl))
      exact row2_ok hc hb hb4 (by rw [List.length_map]; exact hx) (nf_sums rfl rfl hxo)
    · rw [hn]
      show 3 ≤ 400
      decide
  obtain ⟨g, eg, hg⟩ := given04 (lead := lead) (op := c.1.str) (bs := bs.map fun b : Nat => (b : Int)) (Ls := xs.map nfS) hlb
  have hn5 : ∀ L ∈ xs.map nfS, ∀ x ∈ namesIn L, x = ("five" : Str) := fun L hL => by
    obtain ⟨x, _, rfl⟩ := List.mem_map.mp hL
    exact as_names
  have e0 : 0 ≤ sizeOp c.1.str := by rw [f3]; omega
  have e256 : (lead : Int) + sizeOp c.1.str ≤ 256 := by rw [f3]; omega
  have h5 := five04 (lead := lead) hlb
  have ew := words04 (lb := lblN i) (mm := worths04 lead (lblN i)) ho (nf_fits (here := lead) h5 hf)
  have ep := page_mk eR eg (known04 ho hg hn5) (settled04 ho) (settle04 ho hlb) (room04 ho e0 e256) ew
  have ln : ns.length = c.2.2.2 := (mapE_len hf).trans hx
  refine ⟨_, ep, ?_, ?_⟩
  · refine written04 ?_
    show (lead : Int) + sizeOp c.1.str = _
    rw [f3, List.length_cons, ln]
    omega
  · exact listed04 (by simp)
end Rs
/-! The written row is come to; a row of words alone -/
namespace Rs
open PySem PySem.Spec PyProof.Rows L2 SX
theorem look_rows {ws : List Int} {s : TS} {m : Pt} {e : Int × Row} (h : e ∈ s.rows) : e ∈ (look ws s m).rows := by
  unfold look
  split
  · exact h
  · split
    · split <;> exact h
    · split
      · exact h
      · exact List.mem_append_left _ h
theorem tstep_rows {ws : List Int} {s : TS} {e : Int × Row} (h : e ∈ s.rows) : e ∈ (tstep ws s).rows := by
  unfold tstep
  split
  · exact h
  · exact look_rows h
theorem traceN_rows {ws : List Int} {e : Int × Row} : ∀ {n : Nat} {s : TS}, e ∈ s.rows → e ∈ (traceN ws n s).rows
  | 0, s, h => h
  | n + 1, s, h => traceN_rows (n := n) (tstep_rows h)
theorem trace_first {ws : List Int} {p : Int} {r : Row} (h : rowAt ws p = some r) : (p, r) ∈ (trace ws [p]).rows := by
  have hin : 0 ≤ p ∧ p < (ws.length : Int) := by
    rcases Classical.em (0 ≤ p ∧ p < (ws.length : Int)) with q | q
    · exact q
    · rw [rowAt_out q] at h
      cases h
  have e1 : trace ws [p] = traceN ws (2 * ws.length) (tstep ws (begin0 [p])) := rfl
  rw [e1]
  apply traceN_rows
  have e2 : (begin0 [p]).wait = [(p, -1)] := by
    show insP [] (p, -1) = _
    unfold insP
    rw [if_neg (List.not_mem_nil)] <;> rfl
  unfold tstep
  rw [e2]
  show (p, r) ∈ (look ws { begin0 [p] with wait := ([(p, -1)] : List Pt).filter fun y => decide (y ≠ minP (p, -1) []) } (minP (p, -1) [])).rows
  have e3 : minP (p, -1) [] = (p, -1) := rfl
  rw [e3]
  unfold look
  rw [if_neg (fun z => z.elim (fun y => y hin) (fun y => by cases y))]
  simp only [h]
  have e4 : ∀ n, hits (begin0 [p]).rows p n = false := fun n => by
    unfold hits
    rw [List.any_eq_false]
    intro k _ z
    cases z
  rw [if_neg (by rw [e4]; decide)]
  exact List.mem_append_right _ List.mem_cons_self
/-! ### the first word -/
def firstOk (c : Code) (f e : Int) : Bool := decide (0 ≤ f ∧ f < 256 ∧ ¬ (144 ≤ f ∧ f < 176) ∧ findC codes f = some c ∧ f = c.2.1 + e)
theorem first_facts {c : Code} (hc : c ∈ codes) {bs : List Nat} (hb : bs.length = c.2.2.1) (hb4 : ∀ b ∈ bs, b < 4) : 0 ≤ firstW c.1.str (bs.map fun b : Nat => (b : Int)) ∧ firstW c.1.str (bs.map fun b : Nat => (b : Int)) < 256 ∧
    ¬ (144 ≤ firstW c.1.str (bs.map fun b : Nat => (b : Int)) ∧ firstW c.1.str (bs.map fun b : Nat => (b : Int)) < 176) ∧ findC codes (firstW c.1.str (bs.map fun b : Nat => (b : Int))) = some c ∧
    firstW c.1.str (bs.map fun b : Nat => (b : Int)) = c.2.1 + ([0, ((bs ++ [0]).getD 0 0 : Int), 4 * ((bs ++ [0]).getD 0 0 : Int) + ((bs ++ [0, 0]).getD 1 0 : Int)] : List Int).getD c.2.2.1 0 := by
  have k0 : ∀ c ∈ codes, c.2.2.1 = 0 → 0 ≤ firstW c.1.str [] ∧ firstW c.1.str [] < 256 ∧ ¬ (144 ≤ firstW c.1.str [] ∧ firstW c.1.str [] < 176) ∧ findC codes (firstW c.1.str []) = some c ∧ firstW c.1.str [] = c.2.1 := by decide +kernel
  have k1 : ∀ c ∈ codes, c.2.2.1 = 1 → ∀ a < 4, 0 ≤ firstW c.1.str [(a : Nat)] ∧ firstW c.1.str [(a : Nat)] < 256 ∧ ¬ (144 ≤ firstW c.1.str [(a : Nat)] ∧ firstW c.1.str [(a : Nat)] < 176) ∧ findC codes (firstW c.1.str [(a : Nat)]) = some c ∧ firstW c.1.str [(a : Nat)] = c.2.1 + (a : Nat) := by decide +kernel
  have k2 : ∀ c ∈ codes, c.2.2.1 = 2 → ∀ a < 4, ∀ b < 4, firstOk c (firstW c.1.str [(a : Nat), (b : Nat)]) (4 * (a : Nat) + (b : Nat)) = true := by decide +kernel
  match bs, hb, hb4 with
  | [], hb, _ =>
    obtain ⟨a1, a2, a3, a4, a5⟩ := k0 c hc hb.symm
    refine ⟨a1, a2, a3, a4, ?_⟩
    rw [← hb]
    show firstW c.1.str [] = c.2.1 + 0
    rw [a5, Int.add_zero]
  | [a], hb, h4 =>
    obtain ⟨a1, a2, a3, a4, a5⟩ := k1 c hc hb.symm a (h4 a List.mem_cons_self)
    refine ⟨a1, a2, a3, a4, ?_⟩
    rw [← hb]
    exact a5
  | [a, b], hb, h4 =>
    obtain ⟨a1, a2, a3, a4, a5⟩ := of_decide_eq_true (k2 c hc hb.symm a (h4 a List.mem_cons_self) b (h4 b (List.mem_cons_of_mem _ List.mem_cons_self)))
    refine ⟨a1, a2, a3, a4, ?_⟩
    rw [← hb]
    exact a5
  | a :: b :: d :: r, hb, _ =>
    have key : ∀ c ∈ codes, c.2.2.1 ≤ 2 := by decide +kernel
    have := key c hc
    rw [← hb] at this
    simp at this
theorem row04 {c : Code} (hc : c ∈ codes) {lead : Nat} {bs : List Nat} {ns : List Int} (hb : bs.length = c.2.2.1) (hb4 : ∀ b ∈ bs, b < 4) (hn : ns.length = c.2.2.2) : ∃ r, rowAt (List.replicate lead 0 ++ (firstW c.1.str (bs.map fun b : Nat => (b : Int)) :: ns)) lead = some r ∧ r.k = c.1 := by
  obtain ⟨a1, a2, a3, a4, _⟩ := first_facts hc hb hb4
  generalize firstW c.1.str (bs.map fun b : Nat => (b : Int)) = f at a1 a2 a3 a4
  have hl : (List.replicate lead (0 : Int) ++ (f :: ns)).length = lead + (1 + c.2.2.2) := by
    rw [List.length_append, List.length_replicate, List.length_cons, hn]
    omega
  have hg : (List.replicate lead (0 : Int) ++ (f :: ns)).getD (lead : Int).toNat 0 = f := by
    rw [Int.toNat_natCast, List.getD_eq_getElem?_getD, List.getElem?_append_right (by rw [List.length_replicate]; omega), List.length_replicate, Nat.sub_self]
    rfl
  unfold rowAt
  rw [if_pos (by rw [hl]; omega), hg, if_neg a3, a4]
  simp only
  rw [if_neg (by rw [hl]; omega)]
  exact ⟨_, rfl, rfl⟩
theorem fit04 {c : Code} (hc : c ∈ codes) {lead : Nat} {lb : Str} {bs : List Int} {Ls : List (List Pp)} : ∀ {xs : List Nf} {ms : List Int}, xs.map (·.1) = ms.map (fun n : Int => if c.1.str = ("skip" : Str) then n + lead + 2 else n) →
    (∀ n ∈ ms, (if c.1.str = ("take!" : Str) ∨ c.1.str = ("skip" : Str) then -128 else 0) ≤ n ∧ n ≤ (if c.1.str = ("skip" : Str) then 127 else 255)) →
    mapE (fun x : Nf => fitM (R2p lb c.1.str bs Ls lead []) x.1) xs = .ok (ms.map fun n => n % 256)
  | [], [], _, _ => rfl
  | [], _ :: _, h, _ => by cases h
  | _ :: _, [], h, _ => by cases h
  | x :: r, n :: ms, h, hb => by
    obtain ⟨h1, h2⟩ := List.cons.inj h
    have hn := hb n List.mem_cons_self
    refine mapE_ok ?_ (fit04 hc h2 fun y hy => hb y (List.mem_cons_of_mem _ hy))
    have h1 : x.1 = if c.1.str = ("skip" : Str) then n + lead + 2 else n := h1
    have ho := opM_of hc
    have hw : (c.1.str ∈ (["word", "take", "take!"] : List Str)) ↔ c.1.str = ("take!" : Str) := by
      constructor
      · intro z
        rcases List.mem_cons.mp z with y | y
        · exact absurd y ho.n4
        · rcases List.mem_cons.mp y with y | y
          · exact absurd y ho.n5
          · exact List.mem_singleton.mp y
      · intro z
        rw [z]
        decide
    unfold fitM
    by_cases q : c.1.str = ("skip" : Str)
    · rw [if_pos q] at h1
      rw [if_pos (.inr q), if_pos q] at hn
      have es : sizeM (R2p lb c.1.str bs Ls lead []) = 2 := by
        rw [size04 ho, q]
        decide +kernel
      have e : x.1 - (R2p lb c.1.str bs Ls lead []).place - sizeM (R2p lb c.1.str bs Ls lead []) = n := by
        rw [es, h1]
        show n + (lead : Int) + 2 - (lead : Int) - 2 = n
        omega
      rw [if_pos (show (R2p lb c.1.str bs Ls lead []).op = ("skip" : Str) from q), e, if_pos hn]
    · rw [if_neg q] at h1
      rw [if_neg q] at hn
      rw [if_neg (show ¬ (R2p lb c.1.str bs Ls lead []).op = ("skip" : Str) from q), h1]
      refine if_pos ⟨?_, hn.2⟩
      show (if c.1.str ∈ (["word", "take", "take!"] : List Str) then (-128 : Int) else 0) ≤ n
      by_cases t : c.1.str = ("take!" : Str)
      · rw [if_pos (hw.mpr t)]
        rw [if_pos (.inl t)] at hn
        exact hn.1
      · rw [if_neg (fun z => t (hw.mp z))]
        rw [if_neg (fun z => z.elim t q)] at hn
        exact hn.1
end Rs
/-! A row of words ahead of `is five 5` -/
namespace Rs
open PySem PySem.Spec PyProof.Rows L2 SX
def Wr (Ls : List (List Pp)) (ws : List Int) : Rm := ⟨0, "", "word", [], Ls, "", 0, 0, false, ws⟩
def I0 (p : Int) : Rm := ⟨1, "", "is", [], [[(1, Sum.inl 5)]], "five", 0, p, false, []⟩
def wordL (xs : List Nf) : List Nat := TL.joinL [10] [[119, 111, 114, 100, 32] ++ TL.joinL (List.replicate (0 + 1) 32) (xs.map nfL), isfL]
theorem word_S : ("word" : Str) = S [119, 111, 114, 100] := by decide +kernel
theorem fits_word {R : Rm} (ho : R.op = "word") : ∀ {xs : List Nf}, (∀ x ∈ xs, -128 ≤ x.1 ∧ x.1 ≤ 255) → mapE (fun x : Nf => fitM R x.1) xs = .ok (xs.map fun x => x.1 % 256)
  | [], _ => rfl
  | x :: r, h => by
    refine mapE_ok ?_ (fits_word ho fun y hy => h y (List.mem_cons_of_mem _ hy))
    unfold fitM
    rw [if_neg (by rw [ho]; decide)]
    refine if_pos ?_
    rw [if_pos (by rw [ho]; decide)]
    exact h x List.mem_cons_self
theorem word04 {xs : List Nf} (h1 : 1 ≤ xs.length) (h8 : xs.length ≤ 8) (hx : ∀ x ∈ xs, NfOk x) (hf : ∀ x ∈ xs, -128 ≤ x.1 ∧ x.1 ≤ 255) :
    TextOk (S (wordL xs)) ∧ PlainL (linesOf (S (wordL xs))) ∧ ∃ pg, pageM (S (wordL xs)) = .ok pg ∧ writtenP pg = xs.map fun x => x.1 % 256 := by
  have hw : ∀ u ∈ xs.map nfL, WordOk u ∧ u.length ≤ 8 := fun u hu => by
    obtain ⟨x, hx', rfl⟩ := List.mem_map.mp hu
    exact nf_word (hx x hx')
  have hw' : ∀ u ∈ xs.map nfL, WordOk u := fun u hu => (hw u hu).1
  have rows2 : ∀ P : List Nat → Prop, P ([119, 111, 114, 100, 32] ++ TL.joinL (List.replicate (0 + 1) 32) (xs.map nfL)) → P isfL → ∀ r ∈ [[119, 111, 114, 100, 32] ++ TL.joinL (List.replicate (0 + 1) 32) (xs.map nfL), isfL], P r := fun P p1 p2 r hr => by
    rcases List.mem_cons.mp hr with z | z
    · rw [z]; exact p1
    · rw [List.mem_singleton.mp z]; exact p2
  have isS : ∀ x ∈ isfL, x ≠ 10 ∧ x < 0x110000 := by decide
  have woS : ∀ x ∈ [119, 111, 114, 100, 32] ++ TL.joinL (List.replicate (0 + 1) 32) (xs.map nfL), x ≠ 59 ∧ x ≠ 10 ∧ x < 0x110000 := fun x hx => by
    rcases List.mem_append.mp hx with z | z
    · have key : ∀ x ∈ ([119, 111, 114, 100, 32] : List Nat), x ≠ 59 ∧ x ≠ 10 ∧ x < 0x110000 := by decide
      exact key x z
    · exact join_signs hw' x z
  have no10 : ∀ r ∈ [[119, 111, 114, 100, 32] ++ TL.joinL (List.replicate (0 + 1) 32) (xs.map nfL), isfL], 10 ∉ r := rows2 (fun r => 10 ∉ r) (fun z => (woS 10 z).2.1 rfl) (fun z => (isS 10 z).1 rfl)
  have lW : ([119, 111, 114, 100, 32] ++ TL.joinL (List.replicate (0 + 1) 32) (xs.map nfL)).length ≤ 100 := by
    rw [List.length_append]
    have e := joinL_len (k := 0 + 1) (M := 8) fun u hu => (hw u hu).2
    rw [List.length_map] at e
    show 5 + _ ≤ 100
    omega
  have hT : TextOk (S (wordL xs)) := textOk_join (by simp) no10 (rows2 (fun r => r.length ≤ 100) lW (by decide)) (rows2 (fun r => ∀ x ∈ r, x < 0x110000) (fun x hx => (woS x hx).2.2) (fun x hx => (isS x hx).2)) (by show 2 ≤ 900; decide)
  have ww : rowWords (S ([119, 111, 114, 100, 32] ++ TL.joinL (List.replicate (0 + 1) 32) (xs.map nfL))) = ("word" : Str) :: (xs.map nfL).map S := by
    rw [rowWords_plain (fun z => (woS 59 z).1 rfl)]
    show (wl ([119, 111, 114, 100] ++ 32 :: TL.joinL (List.replicate (0 + 1) 32) (xs.map nfL))).map S = _
    have e := wl_join (ws := xs.map nfL) 0 0 (fun u hu => ⟨fun z => ((hw' u hu).2 32 z).1 rfl, (hw' u hu).1⟩)
    rw [List.replicate_zero, List.append_nil] at e
    rw [wl_word _ (by decide) (by decide), e, word_S] <;> rfl
  have hL : linesOf (S (wordL xs)) = [("word" : Str) :: (xs.map nfL).map S, [("is" : Str), "five", "5"]] := by
    unfold wordL
    rw [lines_join (by simp) no10, List.map_cons, List.map_cons, List.map_nil, isf_words, ww]
  have hP : PlainL (linesOf (S (wordL xs))) := by
    rw [hL]
    intro ws hws
    rcases List.mem_cons.mp hws with z | z
    · rw [z]
      exact ⟨fun y => absurd (Option.some.inj y) (by decide), fun y => absurd (List.cons.inj y).1 (by decide)⟩
    · rw [List.mem_singleton.mp z]; decide
  refine ⟨hT, hP, ?_⟩
  have eR : readM (linesOf (S (wordL xs))) = .ok [Wr (xs.map nfS) [], I0 0] := by
    have hn : numbered (linesOf (S (wordL xs))) 0 = [(0, ("word" : Str) :: (xs.map nfL).map S), (1, [("is" : Str), "five", "5"])] := by
      rw [hL] <;> rfl
    refine read_plain hP ?_ ?_
    · rw [hn]
      refine mapE_ok ?_ (mapE_ok (by kernel_rfl) rfl)
      unfold rowI
      simp only
      rw [if_neg (show ¬ Txt.endswith ("word" : Str) ":" = true by decide +kernel)]
      unfold fillM
      simp only
      rw [if_pos trivial, if_pos (by rw [List.length_map, List.length_map]; exact ⟨h1, h8⟩), nf_sums (F := F0 0) rfl rfl hx]
      rfl
    · rw [hn]
      show 2 ≤ 400
      decide
  have eg : givenM [Wr (xs.map nfS) [], I0 0] [] = .ok ["five"] := by kernel_rfl
  have hk : (xs.map nfS).all (isKnownM ["five"]) = true := List.all_eq_true.mpr fun L hL => List.all_eq_true.mpr fun y hy => by
    obtain ⟨x, _, rfl⟩ := List.mem_map.mp hL
    rw [as_names y hy]
    decide
  have ek : knownM ["five"] [Wr (xs.map nfS) [], I0 0] [] = .ok [Wr (xs.map nfS) [], I0 0] := by
    have s2 : ∀ early, knownM ["five"] [I0 0] early = .ok [I0 0] := fun early => by
      unfold knownM
      rw [if_neg (by show ¬ (isKnownM ["five"] [(1, Sum.inl (5 : Int))] && true) = false; rw [known_nil]; decide), if_neg (fun z => z.elim (by decide) (by decide))]
      rfl
    unfold knownM
    rw [if_neg (by show ¬ (xs.map nfS).all (isKnownM ["five"]) = false; rw [hk]; decide), if_neg (show ¬ ((Wr (xs.map nfS) []).op = ("at" : Str) ∨ (Wr (xs.map nfS) []).op = ("room" : Str)) from fun z => z.elim (fun y => absurd (show ("word" : Str) = "at" from y) (by decide)) (fun y => absurd (show ("word" : Str) = "room" from y) (by decide))), s2]
  have es : settledM [Wr (xs.map nfS) [], I0 0] = .ok [1] := by kernel_rfl
  have sz : sizeM (Wr (xs.map nfS) []) = xs.length := by
    show ((xs.map nfS).length : Int) = _
    rw [List.length_map]
  have pl : placeM [Wr (xs.map nfS) [], I0 0] 0 = [Wr (xs.map nfS) [], I0 xs.length] := by
    show [Wr (xs.map nfS) [], I0 (0 + sizeM (Wr (xs.map nfS) []))] = _
    rw [sz, Int.zero_add]
  have en : endM [Wr (xs.map nfS) [], I0 0] 0 = xs.length := by
    show 0 + sizeM (Wr (xs.map nfS) []) + 0 = _
    rw [sz, Int.zero_add, Int.add_zero]
  have ewo : worthsM [Wr (xs.map nfS) [], I0 xs.length] [1] = [(("five" : Str), (5 : Int))] := by kernel_rfl
  have ese : settleM 3 [Wr (xs.map nfS) [], I0 0] [1] = some ⟨[Wr (xs.map nfS) [], I0 xs.length], [(("five" : Str), (5 : Int))], xs.length⟩ := by
    unfold settleM
    rw [pl, ewo, en]
    have g : ([Wr (xs.map nfS) [], I0 xs.length]).any (growing [(("five" : Str), (5 : Int))]) = false := rfl
    rw [if_neg (by rw [g]; decide)]
  have ero : roomM [Wr (xs.map nfS) [], I0 xs.length] = .ok () := by
    unfold roomM
    rw [if_neg (fun z => z.elim (fun y => absurd (show ("word" : Str) = "at" from y.1) (by decide)) (fun y => by rw [sz] at y; have p : (Wr (xs.map nfS) []).place = 0 := rfl; omega))]
    unfold roomM
    have e1 : sizeM (I0 xs.length) = 0 := rfl
    rw [if_neg (fun z => z.elim (fun y => absurd (show ("is" : Str) = "at" from y.1) (by decide)) (fun y => by rw [e1] at y; have p : (I0 xs.length).place = xs.length := rfl; omega))]
    rfl
  have ew : wordsAll [(("five" : Str), (5 : Int))] [Wr (xs.map nfS) [], I0 xs.length] = .ok [Wr (xs.map nfS) (xs.map fun x => x.1 % 256), I0 xs.length] := by
    refine mapE_ok ?_ (mapE_ok rfl rfl)
    have e : wordsM [(("five" : Str), (5 : Int))] (Wr (xs.map nfS) []) = .ok (xs.map fun x => x.1 % 256) := by
      unfold wordsM
      rw [if_neg (show ¬ wordless (Wr (xs.map nfS) []).op = true from fun y => absurd (show wordless ("word" : Str) = true from y) (by decide)), if_neg (show ¬ (Wr (xs.map nfS) []).op = ("room" : Str) from fun y => absurd (show ("word" : Str) = "room" from y) (by decide))]
      have z := nf_fits (mm := [(("five" : Str), (5 : Int))]) (here := (Wr (xs.map nfS) []).place) (by decide) (fits_word (R := Wr (xs.map nfS) []) rfl hf)
      have z' : mapE (fun L => fitM (Wr (xs.map nfS) []) (worthM [(("five" : Str), (5 : Int))] (Wr (xs.map nfS) []).place L)) (Wr (xs.map nfS) []).sums = .ok (xs.map fun x => x.1 % 256) := z
      rw [z']
      simp only
      exact if_pos rfl
    unfold wordsR
    rw [e] <;> rfl
  refine ⟨_, page_mk eR eg ek es ese ero ew, ?_⟩
  unfold writtenP
  show layM (layM (List.replicate ((xs.length : Nat) : Int).toNat 0) (Wr (xs.map nfS) (xs.map fun x => x.1 % 256))) (I0 xs.length) = _
  have l1 : layM (List.replicate ((xs.length : Nat) : Int).toNat 0) (Wr (xs.map nfS) (xs.map fun x => x.1 % 256)) = xs.map fun x => x.1 % 256 := by
    unfold layM
    show (List.replicate ((xs.length : Nat) : Int).toNat (0 : Int)).take 0 ++ (xs.map fun x => x.1 % 256) ++ (List.replicate ((xs.length : Nat) : Int).toNat 0).drop (0 + (xs.map fun x => x.1 % 256).length) = _
    rw [List.take_zero, List.nil_append, List.length_map, Int.toNat_natCast, Nat.zero_add, List.drop_replicate, Nat.sub_self, List.replicate_zero, List.append_nil]
  rw [l1]
  unfold layM
  show (xs.map fun x => x.1 % 256).take ((xs.length : Nat) : Int).toNat ++ [] ++ (xs.map fun x => x.1 % 256).drop (((xs.length : Nat) : Int).toNat + 0) = _
  rw [List.append_nil, Nat.add_zero, List.take_append_drop]
end Rs
/-! k04: a number as a text -/
namespace Rs
open PySem PySem.Spec PyProof.Rows L2 C8 SX
theorem lg1000 {i : Int} (h : i.natAbs ≤ 1000) : i.natAbs.log2 < 1920 := by
  by_cases z : i.natAbs = 0
  · rw [z]; decide
  · rw [Nat.log2_lt z]
    exact Nat.lt_of_le_of_lt h (Nat.lt_of_lt_of_le (show 1000 < 2 ^ 10 by decide) (Nat.pow_le_pow_right (by decide) (by decide)))
theorem str_nat {i : Int} (h : 0 ≤ i) : Str.ofString (toString i) = S (TL.numL i.toNat) := by
  have e : i = (i.toNat : Int) := by omega
  rw [e]
  exact strI_nat _
theorem str_len {i : Int} (h0 : 0 ≤ i) (h : i < 1000) : (Str.ofString (toString i)).length ≤ 3 := by
  rw [str_nat h0, S_len]
  exact TL.numL_len (by decide) (by omega)
theorem plus_S : ("+" : Str) = S [43] := by decide +kernel
theorem fiveP_S : ("five+" : Str) = S (five ++ [43]) := by decide +kernel
theorem fiveM_S : ("five-" : Str) = S (five ++ [45]) := by decide +kernel
theorem neg_len {i : Int} (h : ¬ 0 ≤ i) (h1 : -400 ≤ i) : (Str.ofString (toString i)).length ≤ 4 := by
  have key : ∀ k < 401, (Str.ofString (toString (-(k : Nat) : Int))).length ≤ 4 := by decide +kernel
  have e : i = -((i.natAbs : Nat) : Int) := by omega
  rw [e]
  exact key i.natAbs (by omega)
/-- the three forms -/
theorem formA1 {n : Int} {m : Nat} (h : 0 ≤ n) : Str.ofString (toString n) = S (nfL (n, m, 0)) := by
  rw [str_nat h]
  show _ = S (sumL (asP n m 0))
  unfold asP
  rw [if_pos rfl, if_pos h]
  show _ = S ([] ++ TL.numL n.natAbs)
  rw [List.nil_append, show n.natAbs = n.toNat by omega]
theorem formA2 {n : Int} {m : Nat} (h : ¬ 0 ≤ n) : ("-" : Str) ++ Str.ofString (toString (0 - n)) = S (nfL (n, m, 0)) := by
  rw [str_nat (by omega), minus_S, S_cat]
  show _ = S (sumL (asP n m 0))
  unfold asP
  rw [if_pos rfl, if_neg h]
  show _ = S ([45] ++ TL.numL n.natAbs)
  rw [show n.natAbs = (0 - n).toNat by omega]
theorem formB1 {n : Int} {m : Nat} (h : 0 ≤ n + m) : Str.ofString (toString (n + m)) ++ ("-" : Str) ++ Str.ofString (toString (m : Int)) = S (nfL (n, m, 1)) := by
  rw [str_nat h, str_nat (by omega), minus_S, S_cat, S_cat, Int.toNat_natCast]
  show _ = S (sumL (asP n m 1))
  unfold asP
  rw [if_neg (by decide), if_pos rfl, if_pos h]
  show _ = S ([] ++ TL.numL (n + m).toNat ++ 45 :: TL.numL m)
  rw [List.nil_append, List.append_assoc] <;> rfl
theorem formB2 {n : Int} {m : Nat} (h : ¬ 0 ≤ n + m) : ("-" : Str) ++ Str.ofString (toString ((m : Int) - n)) ++ ("+" : Str) ++ Str.ofString (toString (m : Int)) = S (nfL (n, m, 1)) := by
  rw [str_nat (by omega), str_nat (by omega), minus_S, plus_S, S_cat, S_cat, S_cat, Int.toNat_natCast]
  show _ = S (sumL (asP n m 1))
  unfold asP
  rw [if_neg (by decide), if_pos rfl, if_neg h]
  show _ = S ([45] ++ TL.numL ((m : Int) - n).toNat ++ 43 :: TL.numL m)
  rw [List.append_assoc ([45] ++ _)] <;> rfl
theorem formC1 {n : Int} {m : Nat} (h : 5 ≤ n) : ("five+" : Str) ++ Str.ofString (toString (n - 5)) = S (nfL (n, m, 2)) := by
  rw [str_nat (by omega), fiveP_S, S_cat]
  show _ = S (sumL (asP n m 2))
  unfold asP
  rw [if_neg (by decide), if_neg (by decide), if_pos h]
  show _ = S ([] ++ five ++ 43 :: TL.numL (n - 5).toNat)
  rw [List.append_assoc] <;> rfl
theorem formC2 {n : Int} {m : Nat} (h : ¬ 5 ≤ n) : ("five-" : Str) ++ Str.ofString (toString (5 - n)) = S (nfL (n, m, 2)) := by
  rw [str_nat (by omega), fiveM_S, S_cat]
  show _ = S (sumL (asP n m 2))
  unfold asP
  rw [if_neg (by decide), if_neg (by decide), if_neg h]
  show _ = S ([] ++ five ++ 45 :: TL.numL (5 - n).toNat)
  rw [List.append_assoc] <;> rfl
section
variable {P : Program} {w : World} {K : PySem.W.Frag} {mg : Str → Option Value} {base : Heap}
def spAsText (K : PySem.W.Frag) : Sp := fun vs H Q _ => ∃ (st a e : Addr) (n : Int) (ns : List Int), vs = [.ref st, .int n, .ref e] ∧ -400 ≤ n ∧ n ≤ 400 ∧ St3 H st a ∧ Scr K H st a ns ∧
  ∀ (m f : Nat) (H' : Hp), m ≤ 400 → St3 H' st a → Pr st H H' → Q (.str (S (nfL (n, m, f)))) H'
theorem ok_as_text (D : DefAt K mg "_law_as_text" sD__law_as_text) (T : Txt w K mg) (c__law_drawn : Cal P w K mg base 1 "_law_drawn" (spDrawn K) []) : Cal P w K mg base 2 "_law_as_text" (spAsText K) [] := by
  refine cal_of D sc__law_as_text (fun _ _ _ _ _ _ us hl => match us, hl with | [_, _, _], _ => rfl) (fun vs H Q E h => ?_) (fun cdv A outer s H vs Q E hr h => ?_)
  · obtain ⟨st, a, e, n, ns, rfl, _⟩ := h
    rfl
  · obtain ⟨st, a, e, n, ns, rfl, n0, n1, t0, hSc, k⟩ := h
    refine ⟨_, (pss_cons (ps_set (i := 3) sc__law_as_text.nd rfl (Or.inl rfl) (pe_c c__law_drawn hr (by decide) (by rfl) (pa_cons (pv 0) (pa_cons pe_int pa_nil))))
  (pss_cons (ps_set (i := 4) sc__law_as_text.nd rfl (Or.inl rfl) (pe_lst (pa_cons (pe_ifExp (pt_cmpR op_ge (pv 1) pe_int (nomark _)) (pe_callTy call_str_int (by rfl) T.free_str (by decide +kernel) (pa_cons (pv 1) pa_nil)) (pe_op op_add_str pe_str (pe_callTy call_str_int (by rfl) T.free_str (by decide +kernel) (pa_cons (pe_op op_sub pe_int (pv 1)) pa_nil)))) (pa_cons (pe_op op_add_str (pe_op op_add_str (pe_callTy call_str_int (by rfl) T.free_str (by decide +kernel) (pa_cons (pe_op op_add (pv 1) (pv 3)) pa_nil)) pe_str) (pe_callTy call_str_int (by rfl) T.free_str (by decide +kernel) (pa_cons (pv 3) pa_nil))) pa_nil))))
  (pss_cons (ps_if (pt_cmpR op_lt (pe_op op_add (pv 1) (pv 3)) pe_int (nomark _))
   (pss_one (ps_asg (pe_op op_add_str (pe_op op_add_str (pe_op op_add_str pe_str (pe_callTy call_str_int (by rfl) T.free_str (by decide +kernel) (pa_cons (pe_op op_sub (pv 3) (pv 1)) pa_nil))) pe_str) (pe_callTy call_str_int (by rfl) T.free_str (by decide +kernel) (pa_cons (pv 3) pa_nil))) (pg_sub (pv 4) pe_int set_list)))
   pss_nil)
  (pss_cons (ps_expr (pe_bm PySem.F.plainAttrs_list PySem.F.slot_list_append PySem.F.type_list_append mt_append (pv 4) (pa_cons (pe_ifExp (pt_cmpR op_ge (pv 1) pe_int (nomark _)) (pe_op op_add_str pe_str (pe_callTy call_str_int (by rfl) T.free_str (by decide +kernel) (pa_cons (pe_op op_sub (pv 1) pe_int) pa_nil))) (pe_op op_add_str pe_str (pe_callTy call_str_int (by rfl) T.free_str (by decide +kernel) (pa_cons (pe_op op_sub pe_int (pv 1)) pa_nil)))) pa_nil)))
  (pss_one (ps_ret (pe_ix ix_list (pv 4) (pe_c c__law_drawn hr (by decide) (by rfl) (pa_cons (pv 0) (pa_cons pe_int pa_nil))) (fun _ _ => rfl)))))))), ?_⟩
    refine ⟨_, rfl, st, a, _, ns, rfl, by decide, by decide, t0, hSc, fun m1 G1 a1 b1 t1 o1 => ?_⟩
    obtain ⟨m, rfl⟩ : ∃ m : Nat, m1 = (m : Int) := ⟨m1.toNat, by omega⟩
    refine ⟨_, rfl, _, _, rfl, rfl, _, rfl, ?_⟩
    have sl : (100 : Nat) ≤ sizeLine := by decide
    have ln : ∀ f, (S (nfL (n, m, f))).length ≤ 8 := fun f => by
      rw [S_len]
      exact (nf_word (x := (n, m, f)) ⟨n0, n1, by show m ≤ 400; omega⟩).2
    have cat : ∀ x y : Str, (x ++ y).length = x.length + y.length := fun x y => by
      rw [← S_tl x, ← S_tl y, S_cat, S_len, S_len, S_len, List.length_append]
    have lm : ("-" : Str).length = 1 := by decide
    have lp : ("+" : Str).length = 1 := by decide
    have l5 : ("five+" : Str).length = 5 := by decide
    have l6 : ("five-" : Str).length = 5 := by decide
    have lv := str_len (i := (m : Int)) (by omega) (by omega)
    have lnm : (Str.ofString (toString (n + (m : Int)))).length ≤ 4 := by
      by_cases z : 0 ≤ n + (m : Int)
      · have := str_len z (by omega)
        omega
      · exact neg_len z (by omega)
    -- the list is made, one way or the other
    refine ite2 (fun qa => ?_) (fun qa => ?_)
    · refine ⟨_, rfl, _, rfl, lg1000 (by omega), ?_⟩
      rw [formA1 (m := m) (of_decide_eq_true qa)]
      refine ⟨_, rfl, _, rfl, _, _, rfl, rfl, _, rfl, lg1000 (by omega), _, _, rfl, rfl, by omega, _, rfl, _, rfl, lg1000 (by omega), _, _, rfl, rfl, by rw [cat]; omega, (by show 2 ≤ sizeLine; decide), fun p hp => ?_⟩
      have np : p ≠ st := (t1.ne hp).symm
      have zp : H p = none := by
        rw [← o1 p np]
        exact hp
      refine ⟨_, rfl, _, rfl, _, _, rfl, rfl, _, _, rfl, rfl, _, rfl, ?_⟩
      refine ite2 (fun qb => ?_) (fun qb => ?_)
      · have qb := of_decide_eq_true qb
        have lmn := str_len (i := (m : Int) - n) (by omega) (by omega)
        refine ⟨_, rfl, _, rfl, _, _, rfl, rfl, _, rfl, lg1000 (by omega), _, _, rfl, rfl, by omega, _, _, rfl, rfl, by rw [cat]; omega, _, rfl, _, rfl, lg1000 (by omega), _, _, rfl, rfl, by rw [cat, cat]; omega, ?_⟩
        rw [formB2 (by omega)]
        refine ⟨_, rfl, p, _, 1, 1, rfl, rfl, upd_same, rfl, ?_⟩
        generalize hB : Str.ofString (toString (n + (m : Int))) ++ ("-" : Str) ++ Str.ofString (toString (m : Int)) = bS
        have hx : upd (upd G1 p (.lst [.str (S (nfL (n, m, 0))), .str bS])) p (.lst ([.str (S (nfL (n, m, 0))), .str bS].set 1 (.str (S (nfL (n, m, 1)))))) p = some (.lst [.str (S (nfL (n, m, 0))), .str (S (nfL (n, m, 1)))]) := upd_same
        have tx : St3 (upd (upd G1 p (.lst [.str (S (nfL (n, m, 0))), .str bS])) p (.lst ([.str (S (nfL (n, m, 0))), .str bS].set 1 (.str (S (nfL (n, m, 1))))))) st a := (t1.put np.symm).put np.symm
        have px : Pr st H (upd (upd G1 p (.lst [.str (S (nfL (n, m, 0))), .str bS])) p (.lst ([.str (S (nfL (n, m, 0))), .str bS].set 1 (.str (S (nfL (n, m, 1))))))) := (o1.pr.put zp).put zp
        generalize upd (upd G1 p (.lst [.str (S (nfL (n, m, 0))), .str bS])) p (.lst ([.str (S (nfL (n, m, 0))), .str bS].set 1 (.str (S (nfL (n, m, 1)))))) = Hx at hx tx px ⊢
        refine ⟨_, rfl, .inl ⟨rfl, _, SqL.of hx⟩, _, rfl, _, _, rfl, rfl, _, rfl, ?_⟩
        refine ite2 (fun qc => ?_) (fun qc => ?_)
        · have qc := of_decide_eq_true qc
          refine ⟨_, rfl, _, _, rfl, rfl, _, rfl, lg1000 (by omega), _, _, rfl, rfl, ?_, ?_⟩
          · have := str_len (i := n - 5) (by omega) (by omega)
            omega
          rw [formC1 (m := m) qc]
          refine ⟨p, _, _, rfl, rfl, hx, (by show 2 < sizeLine; decide), ?_⟩
          have h3 : upd Hx p (.lst ([.str (S (nfL (n, m, 0))), .str (S (nfL (n, m, 1)))] ++ [.str (S (nfL (n, m, 2)))])) p = some (.lst [.str (S (nfL (n, m, 0))), .str (S (nfL (n, m, 1))), .str (S (nfL (n, m, 2)))]) := upd_same
          have t3 := tx.put (o := .lst ([.str (S (nfL (n, m, 0))), .str (S (nfL (n, m, 1)))] ++ [.str (S (nfL (n, m, 2)))])) np.symm
          have p3 := px.put (o := .lst ([.str (S (nfL (n, m, 0))), .str (S (nfL (n, m, 1)))] ++ [.str (S (nfL (n, m, 2)))])) zp
          generalize upd Hx p (.lst ([.str (S (nfL (n, m, 0))), .str (S (nfL (n, m, 1)))] ++ [.str (S (nfL (n, m, 2)))])) = H3 at h3 t3 p3 ⊢
          refine ⟨_, rfl, _, rfl, st, a, _, ns, rfl, by decide, by decide, t3, hSc.pr p3, fun v G4 a4 b4 t4 o4 => ?_⟩
          refine ⟨p, _, v, .str (S (nfL (n, m, v.toNat))), rfl, rfl, SqL.of ((o4 p np).trans h3), ?_, k m v.toNat G4 (by omega) t4 (p3.trans o4.pr)⟩
          have hv : v = 0 ∨ v = 1 ∨ v = 2 := by omega
          rcases hv with rfl | rfl | rfl <;> rfl
        · have qc := of_decide_eq_false (Bool.eq_false_iff.mpr qc)
          refine ⟨_, rfl, _, _, rfl, rfl, _, rfl, lg1000 (by omega), _, _, rfl, rfl, ?_, ?_⟩
          · have := str_len (i := 5 - n) (by omega) (by omega)
            omega
          rw [formC2 (m := m) qc]
          refine ⟨p, _, _, rfl, rfl, hx, (by show 2 < sizeLine; decide), ?_⟩
          have h3 : upd Hx p (.lst ([.str (S (nfL (n, m, 0))), .str (S (nfL (n, m, 1)))] ++ [.str (S (nfL (n, m, 2)))])) p = some (.lst [.str (S (nfL (n, m, 0))), .str (S (nfL (n, m, 1))), .str (S (nfL (n, m, 2)))]) := upd_same
          have t3 := tx.put (o := .lst ([.str (S (nfL (n, m, 0))), .str (S (nfL (n, m, 1)))] ++ [.str (S (nfL (n, m, 2)))])) np.symm
          have p3 := px.put (o := .lst ([.str (S (nfL (n, m, 0))), .str (S (nfL (n, m, 1)))] ++ [.str (S (nfL (n, m, 2)))])) zp
          generalize upd Hx p (.lst ([.str (S (nfL (n, m, 0))), .str (S (nfL (n, m, 1)))] ++ [.str (S (nfL (n, m, 2)))])) = H3 at h3 t3 p3 ⊢
          refine ⟨_, rfl, _, rfl, st, a, _, ns, rfl, by decide, by decide, t3, hSc.pr p3, fun v G4 a4 b4 t4 o4 => ?_⟩
          refine ⟨p, _, v, .str (S (nfL (n, m, v.toNat))), rfl, rfl, SqL.of ((o4 p np).trans h3), ?_, k m v.toNat G4 (by omega) t4 (p3.trans o4.pr)⟩
          have hv : v = 0 ∨ v = 1 ∨ v = 2 := by omega
          rcases hv with rfl | rfl | rfl <;> rfl
      · have qb := of_decide_eq_false (Bool.eq_false_iff.mpr qb)
        rw [formB1 (by omega)]
        have hx : upd G1 p (.lst [.str (S (nfL (n, m, 0))), .str (S (nfL (n, m, 1)))]) p = some (.lst [.str (S (nfL (n, m, 0))), .str (S (nfL (n, m, 1)))]) := upd_same
        have tx : St3 (upd G1 p (.lst [.str (S (nfL (n, m, 0))), .str (S (nfL (n, m, 1)))])) st a := t1.put np.symm
        have px : Pr st H (upd G1 p (.lst [.str (S (nfL (n, m, 0))), .str (S (nfL (n, m, 1)))])) := o1.pr.put zp
        generalize upd G1 p (.lst [.str (S (nfL (n, m, 0))), .str (S (nfL (n, m, 1)))]) = Hx at hx tx px ⊢
        refine ⟨_, rfl, .inl ⟨rfl, _, SqL.of hx⟩, _, rfl, _, _, rfl, rfl, _, rfl, ?_⟩
        refine ite2 (fun qc => ?_) (fun qc => ?_)
        · have qc := of_decide_eq_true qc
          refine ⟨_, rfl, _, _, rfl, rfl, _, rfl, lg1000 (by omega), _, _, rfl, rfl, ?_, ?_⟩
          · have := str_len (i := n - 5) (by omega) (by omega)
            omega
          rw [formC1 (m := m) qc]
          refine ⟨p, _, _, rfl, rfl, hx, (by show 2 < sizeLine; decide), ?_⟩
          have h3 : upd Hx p (.lst ([.str (S (nfL (n, m, 0))), .str (S (nfL (n, m, 1)))] ++ [.str (S (nfL (n, m, 2)))])) p = some (.lst [.str (S (nfL (n, m, 0))), .str (S (nfL (n, m, 1))), .str (S (nfL (n, m, 2)))]) := upd_same
          have t3 := tx.put (o := .lst ([.str (S (nfL (n, m, 0))), .str (S (nfL (n, m, 1)))] ++ [.str (S (nfL (n, m, 2)))])) np.symm
          have p3 := px.put (o := .lst ([.str (S (nfL (n, m, 0))), .str (S (nfL (n, m, 1)))] ++ [.str (S (nfL (n, m, 2)))])) zp
          generalize upd Hx p (.lst ([.str (S (nfL (n, m, 0))), .str (S (nfL (n, m, 1)))] ++ [.str (S (nfL (n, m, 2)))])) = H3 at h3 t3 p3 ⊢
          refine ⟨_, rfl, _, rfl, st, a, _, ns, rfl, by decide, by decide, t3, hSc.pr p3, fun v G4 a4 b4 t4 o4 => ?_⟩
          refine ⟨p, _, v, .str (S (nfL (n, m, v.toNat))), rfl, rfl, SqL.of ((o4 p np).trans h3), ?_, k m v.toNat G4 (by omega) t4 (p3.trans o4.pr)⟩
          have hv : v = 0 ∨ v = 1 ∨ v = 2 := by omega
          rcases hv with rfl | rfl | rfl <;> rfl
        · have qc := of_decide_eq_false (Bool.eq_false_iff.mpr qc)
          refine ⟨_, rfl, _, _, rfl, rfl, _, rfl, lg1000 (by omega), _, _, rfl, rfl, ?_, ?_⟩
          · have := str_len (i := 5 - n) (by omega) (by omega)
            omega
          rw [formC2 (m := m) qc]
          refine ⟨p, _, _, rfl, rfl, hx, (by show 2 < sizeLine; decide), ?_⟩
          have h3 : upd Hx p (.lst ([.str (S (nfL (n, m, 0))), .str (S (nfL (n, m, 1)))] ++ [.str (S (nfL (n, m, 2)))])) p = some (.lst [.str (S (nfL (n, m, 0))), .str (S (nfL (n, m, 1))), .str (S (nfL (n, m, 2)))]) := upd_same
          have t3 := tx.put (o := .lst ([.str (S (nfL (n, m, 0))), .str (S (nfL (n, m, 1)))] ++ [.str (S (nfL (n, m, 2)))])) np.symm
          have p3 := px.put (o := .lst ([.str (S (nfL (n, m, 0))), .str (S (nfL (n, m, 1)))] ++ [.str (S (nfL (n, m, 2)))])) zp
          generalize upd Hx p (.lst ([.str (S (nfL (n, m, 0))), .str (S (nfL (n, m, 1)))] ++ [.str (S (nfL (n, m, 2)))])) = H3 at h3 t3 p3 ⊢
          refine ⟨_, rfl, _, rfl, st, a, _, ns, rfl, by decide, by decide, t3, hSc.pr p3, fun v G4 a4 b4 t4 o4 => ?_⟩
          refine ⟨p, _, v, .str (S (nfL (n, m, v.toNat))), rfl, rfl, SqL.of ((o4 p np).trans h3), ?_, k m v.toNat G4 (by omega) t4 (p3.trans o4.pr)⟩
          have hv : v = 0 ∨ v = 1 ∨ v = 2 := by omega
          rcases hv with rfl | rfl | rfl <;> rfl
    · have qa := of_decide_eq_false (Bool.eq_false_iff.mpr qa)
      refine ⟨_, rfl, _, _, rfl, rfl, _, rfl, lg1000 (by omega), _, _, rfl, rfl, ?_, ?_⟩
      · have := str_len (i := 0 - n) (by omega) (by omega)
        omega
      rw [formA2 (m := m) qa]
      refine ⟨_, rfl, _, rfl, _, _, rfl, rfl, _, rfl, lg1000 (by omega), _, _, rfl, rfl, by omega, _, rfl, _, rfl, lg1000 (by omega), _, _, rfl, rfl, by rw [cat]; omega, (by show 2 ≤ sizeLine; decide), fun p hp => ?_⟩
      have np : p ≠ st := (t1.ne hp).symm
      have zp : H p = none := by
        rw [← o1 p np]
        exact hp
      refine ⟨_, rfl, _, rfl, _, _, rfl, rfl, _, _, rfl, rfl, _, rfl, ?_⟩
      refine ite2 (fun qb => ?_) (fun qb => ?_)
      · have qb := of_decide_eq_true qb
        have lmn := str_len (i := (m : Int) - n) (by omega) (by omega)
        refine ⟨_, rfl, _, rfl, _, _, rfl, rfl, _, rfl, lg1000 (by omega), _, _, rfl, rfl, by omega, _, _, rfl, rfl, by rw [cat]; omega, _, rfl, _, rfl, lg1000 (by omega), _, _, rfl, rfl, by rw [cat, cat]; omega, ?_⟩
        rw [formB2 (by omega)]
        refine ⟨_, rfl, p, _, 1, 1, rfl, rfl, upd_same, rfl, ?_⟩
        generalize hB : Str.ofString (toString (n + (m : Int))) ++ ("-" : Str) ++ Str.ofString (toString (m : Int)) = bS
        have hx : upd (upd G1 p (.lst [.str (S (nfL (n, m, 0))), .str bS])) p (.lst ([.str (S (nfL (n, m, 0))), .str bS].set 1 (.str (S (nfL (n, m, 1)))))) p = some (.lst [.str (S (nfL (n, m, 0))), .str (S (nfL (n, m, 1)))]) := upd_same
        have tx : St3 (upd (upd G1 p (.lst [.str (S (nfL (n, m, 0))), .str bS])) p (.lst ([.str (S (nfL (n, m, 0))), .str bS].set 1 (.str (S (nfL (n, m, 1))))))) st a := (t1.put np.symm).put np.symm
        have px : Pr st H (upd (upd G1 p (.lst [.str (S (nfL (n, m, 0))), .str bS])) p (.lst ([.str (S (nfL (n, m, 0))), .str bS].set 1 (.str (S (nfL (n, m, 1))))))) := (o1.pr.put zp).put zp
        generalize upd (upd G1 p (.lst [.str (S (nfL (n, m, 0))), .str bS])) p (.lst ([.str (S (nfL (n, m, 0))), .str bS].set 1 (.str (S (nfL (n, m, 1)))))) = Hx at hx tx px ⊢
        refine ⟨_, rfl, .inl ⟨rfl, _, SqL.of hx⟩, _, rfl, _, _, rfl, rfl, _, rfl, ?_⟩
        refine ite2 (fun qc => ?_) (fun qc => ?_)
        · have qc := of_decide_eq_true qc
          refine ⟨_, rfl, _, _, rfl, rfl, _, rfl, lg1000 (by omega), _, _, rfl, rfl, ?_, ?_⟩
          · have := str_len (i := n - 5) (by omega) (by omega)
            omega
          rw [formC1 (m := m) qc]
          refine ⟨p, _, _, rfl, rfl, hx, (by show 2 < sizeLine; decide), ?_⟩
          have h3 : upd Hx p (.lst ([.str (S (nfL (n, m, 0))), .str (S (nfL (n, m, 1)))] ++ [.str (S (nfL (n, m, 2)))])) p = some (.lst [.str (S (nfL (n, m, 0))), .str (S (nfL (n, m, 1))), .str (S (nfL (n, m, 2)))]) := upd_same
          have t3 := tx.put (o := .lst ([.str (S (nfL (n, m, 0))), .str (S (nfL (n, m, 1)))] ++ [.str (S (nfL (n, m, 2)))])) np.symm
          have p3 := px.put (o := .lst ([.str (S (nfL (n, m, 0))), .str (S (nfL (n, m, 1)))] ++ [.str (S (nfL (n, m, 2)))])) zp
          generalize upd Hx p (.lst ([.str (S (nfL (n, m, 0))), .str (S (nfL (n, m, 1)))] ++ [.str (S (nfL (n, m, 2)))])) = H3 at h3 t3 p3 ⊢
          refine ⟨_, rfl, _, rfl, st, a, _, ns, rfl, by decide, by decide, t3, hSc.pr p3, fun v G4 a4 b4 t4 o4 => ?_⟩
          refine ⟨p, _, v, .str (S (nfL (n, m, v.toNat))), rfl, rfl, SqL.of ((o4 p np).trans h3), ?_, k m v.toNat G4 (by omega) t4 (p3.trans o4.pr)⟩
          have hv : v = 0 ∨ v = 1 ∨ v = 2 := by omega
          rcases hv with rfl | rfl | rfl <;> rfl
        · have qc := of_decide_eq_false (Bool.eq_false_iff.mpr qc)
          refine ⟨_, rfl, _, _, rfl, rfl, _, rfl, lg1000 (by omega), _, _, rfl, rfl, ?_, ?_⟩
          · have := str_len (i := 5 - n) (by omega) (by omega)
            omega
          rw [formC2 (m := m) qc]
          refine ⟨p, _, _, rfl, rfl, hx, (by show 2 < sizeLine; decide), ?_⟩
          have h3 : upd Hx p (.lst ([.str (S (nfL (n, m, 0))), .str (S (nfL (n, m, 1)))] ++ [.str (S (nfL (n, m, 2)))])) p = some (.lst [.str (S (nfL (n, m, 0))), .str (S (nfL (n, m, 1))), .str (S (nfL (n, m, 2)))]) := upd_same
          have t3 := tx.put (o := .lst ([.str (S (nfL (n, m, 0))), .str (S (nfL (n, m, 1)))] ++ [.str (S (nfL (n, m, 2)))])) np.symm
          have p3 := px.put (o := .lst ([.str (S (nfL (n, m, 0))), .str (S (nfL (n, m, 1)))] ++ [.str (S (nfL (n, m, 2)))])) zp
          generalize upd Hx p (.lst ([.str (S (nfL (n, m, 0))), .str (S (nfL (n, m, 1)))] ++ [.str (S (nfL (n, m, 2)))])) = H3 at h3 t3 p3 ⊢
          refine ⟨_, rfl, _, rfl, st, a, _, ns, rfl, by decide, by decide, t3, hSc.pr p3, fun v G4 a4 b4 t4 o4 => ?_⟩
          refine ⟨p, _, v, .str (S (nfL (n, m, v.toNat))), rfl, rfl, SqL.of ((o4 p np).trans h3), ?_, k m v.toNat G4 (by omega) t4 (p3.trans o4.pr)⟩
          have hv : v = 0 ∨ v = 1 ∨ v = 2 := by omega
          rcases hv with rfl | rfl | rfl <;> rfl
      · have qb := of_decide_eq_false (Bool.eq_false_iff.mpr qb)
        rw [formB1 (by omega)]
        have hx : upd G1 p (.lst [.str (S (nfL (n, m, 0))), .str (S (nfL (n, m, 1)))]) p = some (.lst [.str (S (nfL (n, m, 0))), .str (S (nfL (n, m, 1)))]) := upd_same
        have tx : St3 (upd G1 p (.lst [.str (S (nfL (n, m, 0))), .str (S (nfL (n, m, 1)))])) st a := t1.put np.symm
        have px : Pr st H (upd G1 p (.lst [.str (S (nfL (n, m, 0))), .str (S (nfL (n, m, 1)))])) := o1.pr.put zp
        generalize upd G1 p (.lst [.str (S (nfL (n, m, 0))), .str (S (nfL (n, m, 1)))]) = Hx at hx tx px ⊢
        refine ⟨_, rfl, .inl ⟨rfl, _, SqL.of hx⟩, _, rfl, _, _, rfl, rfl, _, rfl, ?_⟩
        refine ite2 (fun qc => ?_) (fun qc => ?_)
        · have qc := of_decide_eq_true qc
          refine ⟨_, rfl, _, _, rfl, rfl, _, rfl, lg1000 (by omega), _, _, rfl, rfl, ?_, ?_⟩
          · have := str_len (i := n - 5) (by omega) (by omega)
            omega
          rw [formC1 (m := m) qc]
          refine ⟨p, _, _, rfl, rfl, hx, (by show 2 < sizeLine; decide), ?_⟩
          have h3 : upd Hx p (.lst ([.str (S (nfL (n, m, 0))), .str (S (nfL (n, m, 1)))] ++ [.str (S (nfL (n, m, 2)))])) p = some (.lst [.str (S (nfL (n, m, 0))), .str (S (nfL (n, m, 1))), .str (S (nfL (n, m, 2)))]) := upd_same
          have t3 := tx.put (o := .lst ([.str (S (nfL (n, m, 0))), .str (S (nfL (n, m, 1)))] ++ [.str (S (nfL (n, m, 2)))])) np.symm
          have p3 := px.put (o := .lst ([.str (S (nfL (n, m, 0))), .str (S (nfL (n, m, 1)))] ++ [.str (S (nfL (n, m, 2)))])) zp
          generalize upd Hx p (.lst ([.str (S (nfL (n, m, 0))), .str (S (nfL (n, m, 1)))] ++ [.str (S (nfL (n, m, 2)))])) = H3 at h3 t3 p3 ⊢
          refine ⟨_, rfl, _, rfl, st, a, _, ns, rfl, by decide, by decide, t3, hSc.pr p3, fun v G4 a4 b4 t4 o4 => ?_⟩
          refine ⟨p, _, v, .str (S (nfL (n, m, v.toNat))), rfl, rfl, SqL.of ((o4 p np).trans h3), ?_, k m v.toNat G4 (by omega) t4 (p3.trans o4.pr)⟩
          have hv : v = 0 ∨ v = 1 ∨ v = 2 := by omega
          rcases hv with rfl | rfl | rfl <;> rfl
        · have qc := of_decide_eq_false (Bool.eq_false_iff.mpr qc)
          refine ⟨_, rfl, _, _, rfl, rfl, _, rfl, lg1000 (by omega), _, _, rfl, rfl, ?_, ?_⟩
          · have := str_len (i := 5 - n) (by omega) (by omega)
            omega
          rw [formC2 (m := m) qc]
          refine ⟨p, _, _, rfl, rfl, hx, (by show 2 < sizeLine; decide), ?_⟩
          have h3 : upd Hx p (.lst ([.str (S (nfL (n, m, 0))), .str (S (nfL (n, m, 1)))] ++ [.str (S (nfL (n, m, 2)))])) p = some (.lst [.str (S (nfL (n, m, 0))), .str (S (nfL (n, m, 1))), .str (S (nfL (n, m, 2)))]) := upd_same
          have t3 := tx.put (o := .lst ([.str (S (nfL (n, m, 0))), .str (S (nfL (n, m, 1)))] ++ [.str (S (nfL (n, m, 2)))])) np.symm
          have p3 := px.put (o := .lst ([.str (S (nfL (n, m, 0))), .str (S (nfL (n, m, 1)))] ++ [.str (S (nfL (n, m, 2)))])) zp
          generalize upd Hx p (.lst ([.str (S (nfL (n, m, 0))), .str (S (nfL (n, m, 1)))] ++ [.str (S (nfL (n, m, 2)))])) = H3 at h3 t3 p3 ⊢
          refine ⟨_, rfl, _, rfl, st, a, _, ns, rfl, by decide, by decide, t3, hSc.pr p3, fun v G4 a4 b4 t4 o4 => ?_⟩
          refine ⟨p, _, v, .str (S (nfL (n, m, v.toNat))), rfl, rfl, SqL.of ((o4 p np).trans h3), ?_, k m v.toNat G4 (by omega) t4 (p3.trans o4.pr)⟩
          have hv : v = 0 ∨ v = 1 ∨ v = 2 := by omega
          rcases hv with rfl | rfl | rfl <;> rfl
end
end Rs
/-! k04: the pieces of the text as the law writes them -/
namespace Rs
open PySem PySem.Spec PyProof.Rows L2 SX
theorem sep_S : ∀ k < 3, ([" ", "  ", "   "] : List Str).getD k "" = S (List.replicate (k + 1) 32) := by decide +kernel
theorem pre_S : ∀ i < 3, (["", "name: ", "  "] : List Str).getD i "" = S (preL i) := by decide +kernel
theorem suf_S : ∀ j < 4, (["", " ", " ; stop", ";"] : List Str).getD j "" = S (sufL j) := by decide +kernel
theorem isf_S : ("is five 5" : Str) = S isfL := by decide +kernel
theorem roomP_S : ("room " : Str) = S [114, 111, 111, 109, 32] := by decide +kernel
theorem r_S : ("r" : Str) = S [114] := by decide +kernel
theorem wordP_S : ("word " : Str) = S [119, 111, 114, 100, 32] := by decide +kernel
theorem nlIs_S : ("\nis five 5" : Str) = S (10 :: isfL) := by decide +kernel
theorem room_text (lead : Nat) : ("room " : Str) ++ Str.ofString (toString (lead : Int)) = S (roomL lead) := by
  rw [show Str.ofString (toString (lead : Int)) = S (TL.numL lead) from strI_nat lead, roomP_S, S_cat]
  rfl
theorem box_text (b : Nat) (h : b < 10) : ("r" : Str) ++ Str.ofString (toString (b : Int)) = S (boxL b) := by
  rw [show Str.ofString (toString (b : Int)) = S (TL.numL b) from strI_nat b, r_S, S_cat, TL.numL_lt h]
  rfl
theorem row_text {i k j : Nat} (hi : i < 3) (hk : k < 3) (hj : j < 4) (W : List (List Nat)) : (["", "name: ", "  "] : List Str).getD i "" ++ Txt.join (([" ", "  ", "   "] : List Str).getD k "") (W.map S) ++ (["", " ", " ; stop", ";"] : List Str).getD j "" = S (rowL i k j W) := by
  rw [pre_S i hi, sep_S k hk, suf_S j hj, join_S, S_cat, S_cat]
  rfl
theorem text_text {i k j lead : Nat} (W : List (List Nat)) : Txt.join "\n" [("is five 5" : Str), S (roomL lead), S (rowL i k j W)] = S (textL i k j lead W) := by
  rw [isf_S, nl_S]
  exact join_S [10] [isfL, roomL lead, rowL i k j W]
theorem word_text (xs : List Nf) : ("word " : Str) ++ Txt.join " " ((xs.map nfL).map S) ++ ("\nis five 5" : Str) = S (wordL xs) := by
  rw [wordP_S, nlIs_S, sp_S, join_S, S_cat, S_cat]
  unfold wordL
  show S (([119, 111, 114, 100, 32] ++ TL.joinL [32] (xs.map nfL)) ++ 10 :: isfL) = S (([119, 111, 114, 100, 32] ++ TL.joinL [32] (xs.map nfL)) ++ ([10] ++ isfL))
  rfl
/-- what is found from the row on -/
theorem found_due {lead : Nat} {L : List (Int × Int × List Int)} {ws : List Int} (h : L = (if lead = 0 then [] else [(1, 0, List.replicate lead 0)]) ++ [(2, (lead : Int), ws)]) : L.drop (if 0 < lead then 1 else 0) = [(2, (lead : Int), ws)] := by
  rw [h]
  by_cases q : lead = 0
  · rw [if_pos q, if_neg (by omega)] <;> rfl
  · rw [if_neg q, if_pos (by omega)] <;> rfl
theorem written_due {lead : Nat} {ws : List Int} : (List.replicate lead (0 : Int) ++ ws).drop lead = ws := by
  rw [List.drop_left' (by rw [List.length_replicate])]
end Rs
namespace Rs
open PySem PySem.Spec PyProof.Rows L2 C8
def EqN : Nat → Hp → V → V → Prop
  | 0, _, _, _ => False
  | n + 1, H, x, y => (∃ i, x = .int i ∧ y = .int i) ∨ (∃ s, x = .str s ∧ y = .str s) ∨
    (∃ a b xs ys, x = .ref a ∧ y = .ref b ∧ H a = some (.lst xs) ∧ H b = some (.lst ys) ∧ xs.length = ys.length ∧ xs.length ≤ 2000 ∧ ∀ (i : Nat) (u v : V), xs[i]? = some u → ys[i]? = some v → EqN n H u v) ∨
    (∃ a b xs ys, x = .ref a ∧ y = .ref b ∧ H a = some (.tup xs) ∧ H b = some (.tup ys) ∧ xs.length = ys.length ∧ xs.length ≤ 2000 ∧ ∀ (i : Nat) (u v : V), xs[i]? = some u → ys[i]? = some v → EqN n H u v)
theorem EqN.mono : ∀ {n : Nat} {H H' : Hp} {x y : V}, EqN n H x y → Same H H' → EqN n H' x y
  | 0, _, _, _, _, h, _ => h
  | n + 1, H, H', x, y, h, s => by
    rcases h with h | h | ⟨a, b, xs, ys, e1, e2, h1, h2, h3, h4, h5⟩ | ⟨a, b, xs, ys, e1, e2, h1, h2, h3, h4, h5⟩
    · exact .inl h
    · exact .inr (.inl h)
    · exact .inr (.inr (.inl ⟨a, b, xs, ys, e1, e2, s _ _ h1, s _ _ h2, h3, h4, fun i u v p q => (h5 i u v p q).mono s⟩))
    · exact .inr (.inr (.inr ⟨a, b, xs, ys, e1, e2, s _ _ h1, s _ _ h2, h3, h4, fun i u v p q => (h5 i u v p q).mono s⟩))
theorem kitTL {K : PySem.W.Frag} {T : String} {r1 r2 r : Bool} (h1 : kitB T "tuple" = some r1) (h2 : kitB T "list" = some r2) (e : r = (r1 || r2)) : PySem.W.kitAny K (.type T) [.type "tuple", .type "list"] = some r := by
  subst e
  refine kitAny_cons (kit_ty h1) (fun q => ?_) (fun q => by rw [q] <;> rfl)
  subst q
  exact kitAny_cons (kit_ty h2) (fun q => by rw [q]; exact kitAny_nil) (fun q => by rw [q] <;> rfl)
def spSame (n : Nat) : Sp := fun vs H Q _ => ∃ x y, vs = [x, y] ∧ EqN n H x y ∧ ∀ H', Same H H' → Q (.bl true) H'
section
variable {P : Program} {w : World} {K : PySem.W.Frag} {mg : Str → Option Value} {base : Heap}
theorem ok_same0 (D : DefAt K mg "_law_same" sD__law_same) : Cal P w K mg base 1 "_law_same" (spSame 0) [] := by
  refine cal_of D sc__law_same (fun _ _ _ _ _ _ us hl => match us, hl with | [_, _], _ => rfl) (fun vs H Q E h => ?_) (fun cdv A outer s H vs Q E hr h => ?_)
  · obtain ⟨x, y, rfl, _⟩ := h
    rfl
  · obtain ⟨x, y, rfl, h, _⟩ := h
    exact h.elim
theorem ok_sameS {n : Nat} (D : DefAt K mg "_law_same" sD__law_same) (T : Txt w K mg) (c__law_same : Cal P w K mg base (n + 1) "_law_same" (spSame n) []) : Cal P w K mg base (n + 2) "_law_same" (spSame (n + 1)) [] := by
  refine cal_of D sc__law_same (fun _ _ _ _ _ _ us hl => match us, hl with | [_, _], _ => rfl) (fun vs H Q E h => ?_) (fun cdv A outer s H vs Q E hr h => ?_)
  · obtain ⟨x, y, rfl, _⟩ := h
    rfl
  · obtain ⟨x, y, rfl, he, k⟩ := h
    refine ⟨_, (pss_cons (ps_if (pt_val (pe_callB call_isiT (by rfl) T.free_isinstance (by decide +kernel) (pa_cons (pv 1) (pa_cons (pe_tup (pa_cons (pe_bltn (by rfl) T.free_tuple (by decide +kernel) (v := .ty "tuple") rfl) (pa_cons (pe_bltn (by rfl) T.free_list (by decide +kernel) (v := .ty "list") rfl) pa_nil))) pa_nil))))
   (pss_cons (ps_if (PW.pt (pw_or (pt_not (pt_val (pe_callB call_isiT (by rfl) T.free_isinstance (by decide +kernel) (pa_cons (pv 0) (pa_cons (pe_tup (pa_cons (pe_bltn (by rfl) T.free_tuple (by decide +kernel) (v := .ty "tuple") rfl) (pa_cons (pe_bltn (by rfl) T.free_list (by decide +kernel) (v := .ty "list") rfl) pa_nil))) pa_nil))))) (pw_or1 (pt_cmpR op_ne (pe_callB call_isi (by rfl) T.free_isinstance (by decide +kernel) (pa_cons (pv 0) (pa_cons (pe_bltn (by rfl) T.free_list (by decide +kernel) (v := .ty "list") rfl) pa_nil))) (pe_callB call_isi (by rfl) T.free_isinstance (by decide +kernel) (pa_cons (pv 1) (pa_cons (pe_bltn (by rfl) T.free_list (by decide +kernel) (v := .ty "list") rfl) pa_nil))) (nomark _)))))
   (pss_one (ps_ret pe_bl))
   pss_nil)
  (pss_cons (ps_if (pt_cmpR op_ne (pe_callB call_len_seq (by rfl) T.free_len (by decide +kernel) (pa_cons (pv 0) pa_nil)) (pe_callB call_len_seq (by rfl) T.free_len (by decide +kernel) (pa_cons (pv 1) pa_nil)) (nomark _))
   (pss_one (ps_ret pe_bl))
   pss_nil)
  (pss_one (ps_ret (pe_cmpR (op_eqD hr.units) (pe_lc (own := [("_law_k", 3)]) (g := gName 3) (by rfl) sc__law_same.nd (pi_range1 (by rfl) T.free_range (pa_cons (pe_callB call_len_seq (by rfl) T.free_len (by decide +kernel) (pa_cons (pv 1) pa_nil)) pa_nil)) (blkOk_by (own := [("_law_k", 3)]) (N := N__law_same) (sc := defScope sD__law_same) (by decide +kernel)) (fun _ _ _ _ _ => (pg_name (i := 3) sc__law_same.nd rfl (Or.inl rfl))) (fun _ _ _ _ _ => (pts_one (pt_not (pt_val (pe_c c__law_same hr (Nat.le_refl _) (by rfl) (pa_cons (pe_ix (r := rIx K) ix_seq (pv 0) (pv 3) (fun _ _ => rfl)) (pa_cons (pe_ix (r := rIx K) ix_seq (pv 1) (pv 3) (fun _ _ => rfl)) pa_nil))))))) (fun _ _ _ _ _ => (pv 3))) (pe_lst pa_nil) (nomark _))))))
   pss_nil)
  (pss_cons (ps_set (i := 2) sc__law_same.nd rfl (Or.inl rfl) (pe_and (pe_cmpR op_eq (pe_callB call_isi (by rfl) T.free_isinstance (by decide +kernel) (pa_cons (pv 0) (pa_cons (pe_bltn (by rfl) T.free_bool (by decide +kernel) (v := .ty "bool") rfl) pa_nil))) (pe_callB call_isi (by rfl) T.free_isinstance (by decide +kernel) (pa_cons (pv 1) (pa_cons (pe_bltn (by rfl) T.free_bool (by decide +kernel) (v := .ty "bool") rfl) pa_nil))) (nomark _)) (pe_one (pe_cmpR op_eq (pe_callB call_isi (by rfl) T.free_isinstance (by decide +kernel) (pa_cons (pv 0) (pa_cons (pe_bltn (by rfl) T.free_int (by decide +kernel) (v := .ty "int") rfl) pa_nil))) (pe_callB call_isi (by rfl) T.free_isinstance (by decide +kernel) (pa_cons (pv 1) (pa_cons (pe_bltn (by rfl) T.free_int (by decide +kernel) (v := .ty "int") rfl) pa_nil))) (nomark _)))))
  (pss_one (ps_ret (pe_and (pv 2) (pe_one (pe_cmpR op_eq (pv 0) (pv 1) (nomark _)))))))), ?_⟩
    rcases he with ⟨i, rfl, rfl⟩ | ⟨z, rfl, rfl⟩ | ⟨a, b, xs, ys, rfl, rfl, ha, hb, hlen, hle, hall⟩ | ⟨a, b, xs, ys, rfl, rfl, ha, hb, hlen, hle, hall⟩
    · -- int
      refine ⟨_, rfl, (by show 2 ≤ sizeLine; decide), fun tp htp => ⟨_, tp, _, _, _, false, rfl, upd_same, .cons (.ty _) (.cons (.ty _) .nil), .base (.int _), kitTL (r1 := false) (r2 := false) (by decide +kernel) (by decide +kernel) rfl, false, rfl, ?_⟩⟩
      refine iteF ?_
      refine ⟨_, rfl, _, _, _, _, _, rfl, .ty _, .base (.int _), kit_ty (r := false) (by decide +kernel), _, rfl, _, _, _, _, _, rfl, .ty _, .base (.int _), kit_ty (r := false) (by decide +kernel), rfl, true, rfl, iteT ?_⟩
      refine ⟨_, rfl, _, _, _, _, _, rfl, .ty _, .base (.int _), kit_ty (r := true) (by decide +kernel), _, rfl, _, _, _, _, _, rfl, .ty _, .base (.int _), kit_ty (r := true) (by decide +kernel), rfl, ?_⟩
      refine ⟨_, rfl, true, rfl, iteT ⟨_, rfl, _, rfl, rfl, ?_⟩⟩
      rw [decide_eq_true rfl]
      exact k _ (Same.new htp)
    · -- str
      refine ⟨_, rfl, (by show 2 ≤ sizeLine; decide), fun tp htp => ⟨_, tp, _, _, _, false, rfl, upd_same, .cons (.ty _) (.cons (.ty _) .nil), .base (.str _), kitTL (r1 := false) (r2 := false) (by decide +kernel) (by decide +kernel) rfl, false, rfl, ?_⟩⟩
      refine iteF ?_
      refine ⟨_, rfl, _, _, _, _, _, rfl, .ty _, .base (.str _), kit_ty (r := false) (by decide +kernel), _, rfl, _, _, _, _, _, rfl, .ty _, .base (.str _), kit_ty (r := false) (by decide +kernel), rfl, true, rfl, iteT ?_⟩
      refine ⟨_, rfl, _, _, _, _, _, rfl, .ty _, .base (.str _), kit_ty (r := false) (by decide +kernel), _, rfl, _, _, _, _, _, rfl, .ty _, .base (.str _), kit_ty (r := false) (by decide +kernel), rfl, ?_⟩
      refine ⟨_, rfl, true, rfl, iteT ⟨_, rfl, _, rfl, rfl, ?_⟩⟩
      rw [decide_eq_true rfl]
      exact k _ (Same.new htp)
    · -- list
      refine ⟨_, rfl, (by show 2 ≤ sizeLine; decide), fun tp htp => ⟨_, tp, _, _, _, true, rfl, upd_same, .cons (.ty _) (.cons (.ty _) .nil), .base (.lst (Same.new htp _ _ hb)), kitTL (r1 := false) (r2 := true) (by decide +kernel) (by decide +kernel) rfl, true, rfl, ?_⟩⟩
      refine iteT ?_
      have s1 : Same H (upd H tp (.tup [V.ty "tuple", V.ty "list"])) := Same.new htp
      generalize upd H tp (.tup [V.ty "tuple", V.ty "list"]) = H1 at s1 ⊢
      have ha1 := s1 _ _ ha
      have hb1 := s1 _ _ hb
      refine ⟨_, rfl, (by show 2 ≤ sizeLine; decide), fun tq htq => ⟨_, tq, _, _, _, true, rfl, upd_same, .cons (.ty _) (.cons (.ty _) .nil), .base (.lst (Same.new htq _ _ ha1)), kitTL (r1 := false) (r2 := true) (by decide +kernel) (by decide +kernel) rfl, true, rfl, ?_⟩⟩
      have s2 : Same H (upd H1 tq (.tup [V.ty "tuple", V.ty "list"])) := s1.add htq
      generalize upd H1 tq (.tup [V.ty "tuple", V.ty "list"]) = H2 at s2 ⊢
      have ha2 := s2 _ _ ha
      have hb2 := s2 _ _ hb
      refine iteF ?_
      refine ⟨_, rfl, _, _, _, _, _, rfl, .ty _, .base (.lst ha2), kit_ty (r := true) (by decide +kernel), _, rfl, _, _, _, _, _, rfl, .ty _, .base (.lst hb2), kit_ty (r := true) (by decide +kernel), rfl, _, rfl, ?_⟩
      refine iteF ?_
      refine ⟨_, rfl, a, _, rfl, .inl (SqL.of ha2), _, rfl, b, _, rfl, .inl (SqL.of hb2), rfl, _, rfl, ?_⟩
      rw [hlen, decide_eq_true rfl]
      refine iteF ?_
      refine ⟨_, rfl, b, _, rfl, .inl (SqL.of hb2), _, rfl, by omega, by omega, fun Dl hD => ?_⟩
      refine lc_range (n := ys.length) (fun i H' => Same H2 H' ∧ H' Dl = some (.lst [])) ⟨Same.new hD, upd_same⟩ ?_ ?_
      · rintro i H3 hi ⟨s3, hDl⟩
        obtain ⟨v, hv⟩ : ∃ v, ys[i]? = some v := ⟨_, List.getElem?_eq_getElem hi⟩
        obtain ⟨u, hu⟩ : ∃ u, xs[i]? = some u := ⟨_, List.getElem?_eq_getElem (by omega)⟩
        have e0 : (0 : Int) + ((i : Nat) : Int) = ((i : Nat) : Int) := by omega
        refine ⟨rfl, ?_⟩
        refine ⟨_, rfl, _, rfl, .inl ⟨a, _, _, _, rfl, rfl, SqL.of (s3 _ _ ha2), (by rw [e0]; exact atI_nat hu), ?_⟩⟩
        refine ⟨_, rfl, _, rfl, .inl ⟨b, _, _, _, rfl, rfl, SqL.of (s3 _ _ hb2), (by rw [e0]; exact atI_nat hv), ?_⟩⟩
        refine ⟨u, v, rfl, (hall i u v hu hv).mono (s2.trans s3), fun H4 s4 => ⟨true, rfl, ?_⟩⟩
        exact iteF ⟨s3.trans s4, s4 _ _ hDl⟩
      · rintro H3 ⟨s3, hDl⟩
        refine ⟨Nat.zero_le _, fun z hz => ?_⟩
        exact ⟨.list [], .list [], .lst (SqL.of (Same.new hz _ _ hDl)) .nil, .lst (SqL.of upd_same) .nil, rfl, rfl, k _ ((s2.trans s3).add hz)⟩
    · -- tuple
      refine ⟨_, rfl, (by show 2 ≤ sizeLine; decide), fun tp htp => ⟨_, tp, _, _, _, true, rfl, upd_same, .cons (.ty _) (.cons (.ty _) .nil), .base (.tup (Same.new htp _ _ hb)), kitTL (r1 := true) (r2 := false) (by decide +kernel) (by decide +kernel) rfl, true, rfl, ?_⟩⟩
      refine iteT ?_
      have s1 : Same H (upd H tp (.tup [V.ty "tuple", V.ty "list"])) := Same.new htp
      generalize upd H tp (.tup [V.ty "tuple", V.ty "list"]) = H1 at s1 ⊢
      have ha1 := s1 _ _ ha
      have hb1 := s1 _ _ hb
      refine ⟨_, rfl, (by show 2 ≤ sizeLine; decide), fun tq htq => ⟨_, tq, _, _, _, true, rfl, upd_same, .cons (.ty _) (.cons (.ty _) .nil), .base (.tup (Same.new htq _ _ ha1)), kitTL (r1 := true) (r2 := false) (by decide +kernel) (by decide +kernel) rfl, true, rfl, ?_⟩⟩
      have s2 : Same H (upd H1 tq (.tup [V.ty "tuple", V.ty "list"])) := s1.add htq
      generalize upd H1 tq (.tup [V.ty "tuple", V.ty "list"]) = H2 at s2 ⊢
      have ha2 := s2 _ _ ha
      have hb2 := s2 _ _ hb
      refine iteF ?_
      refine ⟨_, rfl, _, _, _, _, _, rfl, .ty _, .base (.tup ha2), kit_ty (r := false) (by decide +kernel), _, rfl, _, _, _, _, _, rfl, .ty _, .base (.tup hb2), kit_ty (r := false) (by decide +kernel), rfl, _, rfl, ?_⟩
      refine iteF ?_
      refine ⟨_, rfl, a, _, rfl, .inr (SqT.of ha2), _, rfl, b, _, rfl, .inr (SqT.of hb2), rfl, _, rfl, ?_⟩
      rw [hlen, decide_eq_true rfl]
      refine iteF ?_
      refine ⟨_, rfl, b, _, rfl, .inr (SqT.of hb2), _, rfl, by omega, by omega, fun Dl hD => ?_⟩
      refine lc_range (n := ys.length) (fun i H' => Same H2 H' ∧ H' Dl = some (.lst [])) ⟨Same.new hD, upd_same⟩ ?_ ?_
      · rintro i H3 hi ⟨s3, hDl⟩
        obtain ⟨v, hv⟩ : ∃ v, ys[i]? = some v := ⟨_, List.getElem?_eq_getElem hi⟩
        obtain ⟨u, hu⟩ : ∃ u, xs[i]? = some u := ⟨_, List.getElem?_eq_getElem (by omega)⟩
        have e0 : (0 : Int) + ((i : Nat) : Int) = ((i : Nat) : Int) := by omega
        refine ⟨rfl, ?_⟩
        refine ⟨_, rfl, _, rfl, .inr (.inl ⟨a, _, _, _, rfl, rfl, SqT.of (s3 _ _ ha2), (by rw [e0]; exact atI_nat hu), ?_⟩)⟩
        refine ⟨_, rfl, _, rfl, .inr (.inl ⟨b, _, _, _, rfl, rfl, SqT.of (s3 _ _ hb2), (by rw [e0]; exact atI_nat hv), ?_⟩)⟩
        refine ⟨u, v, rfl, (hall i u v hu hv).mono (s2.trans s3), fun H4 s4 => ⟨true, rfl, ?_⟩⟩
        exact iteF ⟨s3.trans s4, s4 _ _ hDl⟩
      · rintro H3 ⟨s3, hDl⟩
        refine ⟨Nat.zero_le _, fun z hz => ?_⟩
        exact ⟨.list [], .list [], .lst (SqL.of (Same.new hz _ _ hDl)) .nil, .lst (SqL.of upd_same) .nil, rfl, rfl, k _ ((s2.trans s3).add hz)⟩
end
end Rs
namespace Rs
open PySem PySem.Spec PyProof.Rows L2 C8
/-! data: lists of ints, of pairs -/
def dI (l : List Int) : List PyData := l.map PyData.int
def dP (l : List Pt) : List PyData := l.map fun e => PyData.tuple [.int e.1, .int e.2]
theorem dp_all {K : PySem.W.Frag} {H : Hp} : ∀ l : List Int, DpAll K H (il l) (dI l)
  | [] => .nil
  | a :: r => .cons (.int a) (dp_all r)
theorem dp_pairs {K : PySem.W.Frag} {H : Hp} : ∀ {ts : List Addr} {L : List Pt}, ApartAt H ts L → DpAll K H (ts.map V.ref) (dP L)
  | [], [], _ => .nil
  | [], b :: s, h => by cases h.1
  | a :: r, [], h => by cases h.1
  | a :: r, b :: s, h => .cons (.tup (SqT.of (h.2 0 a b rfl rfl)) (.cons (.int _) (.cons (.int _) .nil))) (dp_pairs ⟨by simpa using h.1, fun i t e h1 h2 => h.2 (i + 1) t e h1 h2⟩)
theorem lay_ints : ∀ l : List Int, PyData.canLayAll0 (dI l) = true
  | [] => rfl
  | a :: r => by
    show (PyData.canLay0 (.int a) && PyData.canLayAll0 (dI r)) = true
    rw [lay_ints r] <;> rfl
theorem depth_ints : ∀ l : List Int, PyData.depthAll (dI l) = 0
  | [] => rfl
  | a :: r => by
    show max (PyData.depth (.int a)) (PyData.depthAll (dI r)) = 0
    rw [depth_ints r] <;> rfl
theorem shaped_ints (l : List Int) : SeqAt.shaped (.list (dI l)) = true := by
  have h2 : PyData.depth (.list (dI l)) = 1 := by
    show PyData.depthAll (dI l) + 1 = 1
    rw [depth_ints]
  unfold SeqAt.shaped
  rw [show PyData.canLay0 (.list (dI l)) = true from lay_ints l, h2]
  rfl
theorem lay_pairs : ∀ l : List Pt, PyData.canLayAll0 (dP l) = true
  | [] => rfl
  | a :: r => by
    show (PyData.canLay0 (.tuple [.int a.1, .int a.2]) && PyData.canLayAll0 (dP r)) = true
    rw [lay_pairs r] <;> rfl
theorem depth_pairs : ∀ l : List Pt, PyData.depthAll (dP l) ≤ 1
  | [] => by decide
  | a :: r => by
    show max (PyData.depth (.tuple [.int a.1, .int a.2])) (PyData.depthAll (dP r)) ≤ 1
    have := depth_pairs r
    have e : PyData.depth (.tuple [.int a.1, .int a.2]) = 1 := rfl
    omega
theorem shaped_pairs (l : List Pt) : SeqAt.shaped (.list (dP l)) = true := by
  have h2 : PyData.depth (.list (dP l)) ≤ 64 := by
    show PyData.depthAll (dP l) + 1 ≤ 64
    have := depth_pairs l
    omega
  unfold SeqAt.shaped
  rw [show PyData.canLay0 (.list (dP l)) = true from lay_pairs l, decide_eq_true h2]
  rfl
theorem eqv_nilI (l : List Int) : PyData.eqv (.list (dI l)) (.list []) = decide (l = []) := by
  cases l with
  | nil => rfl
  | cons a r => simp [dI, PyData.eqv, PyData.eqvAll]
theorem eqv_nilP (l : List Pt) : PyData.eqv (.list (dP l)) (.list []) = decide (l = []) := by
  cases l with
  | nil => rfl
  | cons a r => simp [dP, PyData.eqv, PyData.eqvAll]
theorem flat_il (l : List Int) : (il l).all flatV = true := by
  rw [List.all_eq_true]
  intro x hx
  obtain ⟨i, _, rfl⟩ := List.mem_map.mp hx
  rfl
theorem in_il {l : List Int} {x : Int} (h : x ∈ l) : inV (V.int x) (il l) = true := by
  unfold inV
  rw [List.any_eq_true]
  exact ⟨V.int x, List.mem_map.mpr ⟨x, h, rfl⟩, by simp [eqV]⟩
end Rs
/-! k04: the law -/
namespace Rs
open PySem PySem.Spec PyProof.Rows L2 C8 SX
theorem yes_of {σ : L2.St} {H : Hp} {Q : Bool → Hp → Prop} (h : Q true H) : tYes σ H Q := h
theorem in_two (x : Str) : (if (false : Bool) = true then !inV (V.str x) [.str "take!", .str "skip"] else inV (V.str x) [.str "take!", .str "skip"]) = decide (x = ("take!" : Str) ∨ x = ("skip" : Str)) := by
  rw [if_neg (by decide), Bool.eq_iff_iff]
  have e : ∀ a b : Str, eqV (V.str a) (V.str b) = true ↔ b = a := fun a b => by
    constructor
    · intro h
      exact (of_decide_eq_true h).symm
    · intro h
      exact decide_eq_true h.symm
  simp only [inV, List.any_cons, List.any_nil, Bool.or_false, Bool.or_eq_true, e, decide_eq_true_eq]
theorem il_nat (bs ds : List Nat) : il (bs.map fun b : Nat => (b : Int)) ++ il (ds.map fun b : Nat => (b : Int)) = il ((bs ++ ds).map fun b : Nat => (b : Int)) := by
  rw [List.map_append]
  exact List.map_append.symm
theorem il_n1 (bs : List Nat) : il (bs.map fun b : Nat => (b : Int)) ++ [V.int 0] = il ((bs ++ [0]).map fun b : Nat => (b : Int)) := il_nat bs [0]
theorem il_n2 (bs : List Nat) : il (bs.map fun b : Nat => (b : Int)) ++ [V.int 0, V.int 0] = il ((bs ++ [0, 0]).map fun b : Nat => (b : Int)) := il_nat bs [0, 0]
theorem take_snocI {l : List Int} {j : Nat} (h : j < l.length) : l.take (j + 1) = l.take j ++ [l.getD j 0] := by
  rw [List.take_succ, List.getElem?_eq_getElem h, List.getD_eq_getElem?_getD, List.getElem?_eq_getElem h]
  rfl
theorem take_snocN {l : List Nat} {j : Nat} (h : j < l.length) : l.take (j + 1) = l.take j ++ [l.getD j 0] := by
  rw [List.take_succ, List.getElem?_eq_getElem h, List.getD_eq_getElem?_getD, List.getElem?_eq_getElem h]
  rfl
def shF (kd : Kd) (lead : Nat) (n : Int) : Int := if kd.str = ("skip" : Str) then n + lead + 2 else n
def ss (l : List (List Nat)) : List V := (l.map S).map V.str
theorem ss_app (a b : List (List Nat)) : ss (a ++ b) = ss a ++ ss b := by
  unfold ss
  rw [List.map_append, List.map_append]
theorem getD_memN {ws : List Nat} {i : Nat} (h : i < ws.length) : ws.getD i 0 ∈ ws := by
  rw [List.getD_eq_getElem?_getD, List.getElem?_eq_getElem h]
  exact List.getElem_mem h
theorem sum_le {M : Nat} : ∀ {ys : List Str}, (∀ y ∈ ys, y.length ≤ M) → (ys.map (·.length)).sum ≤ ys.length * M
  | [], _ => Nat.zero_le _
  | y :: r, h => by
    have a := h y List.mem_cons_self
    have b := sum_le fun x hx => h x (List.mem_cons_of_mem y hx)
    rw [List.map_cons, List.sum_cons, List.length_cons, Nat.add_mul, Nat.one_mul]
    omega
theorem Nf_ss (W : List (List Nat)) : ss W = (W.map S).map V.str := rfl
theorem tabs_pr {K : PySem.W.Frag} {H H' : Hp} {st : Addr} (n : ∀ x ∈ gens, tabAt K x ≠ st) (h : Tabs K H) (p : Pr st H H') : Tabs K H' := fun x hx => p _ _ (h x hx) (n x hx)
def d3 (e : Int × Int × List Int) : PyData := .tuple [.int e.1, .int e.2.1, .tuple (dI e.2.2)]
theorem dp_lst3 {K : PySem.W.Frag} {H : Hp} : ∀ {ts : List Addr} {L : List (Int × Int × List Int)}, Al (LstAt H) ts L → DpAll K H (ts.map V.ref) (L.map d3)
  | [], [], _ => .nil
  | [], b :: s, h => by cases h.1
  | a :: r, [], h => by cases h.1
  | a :: r, b :: s, h => by
    obtain ⟨u, h1, h2⟩ := h.2 0 a b rfl rfl
    exact .cons (.tup (SqT.of h1) (.cons (.int _) (.cons (.int _) (.cons (.tup (SqT.of h2) (dp_all _)) .nil)))) (dp_lst3 ⟨by simpa using h.1, fun i t e h1 h2 => h.2 (i + 1) t e h1 h2⟩)
theorem eqv_self {d : PyData} (h : SeqAt.shaped d = true) : PyData.eqv d d = true := SeqAt.eqv_refl d (SeqAt.canLay_of_shaped h)
theorem shaped_one3 (e : Int × Int × List Int) : SeqAt.shaped (.list [d3 e]) = true := by
  have h2 : PyData.depth (.list [d3 e]) ≤ 64 := by
    show max (max 0 (max 0 (max (PyData.depthAll (dI e.2.2) + 1) 0)) + 1) 0 + 1 ≤ 64
    rw [depth_ints]
    decide
  have h1 : PyData.canLay0 (.list [d3 e]) = true := by
    show ((PyData.canLay0 (.int e.1) && (PyData.canLay0 (.int e.2.1) && (PyData.canLayAll0 (dI e.2.2) && true))) && true) = true
    rw [lay_ints] <;> rfl
  unfold SeqAt.shaped
  rw [h1, decide_eq_true h2]
  rfl
theorem Al.drop {α β : Type} {p : α → β → Prop} {xs : List α} {ys : List β} (h : Al p xs ys) (n : Nat) : Al p (xs.drop n) (ys.drop n) := ⟨by rw [List.length_drop, List.length_drop, h.1], fun i x y h1 h2 => by
  rw [List.getElem?_drop] at h1 h2
  exact h.2 _ x y h1 h2⟩
theorem dp_eq {K : PySem.W.Frag} {H : Hp} {xs ys : List V} {ds : List PyData} (e : xs = ys) (h : DpAll K H ys ds) : DpAll K H xs ds := by rw [e]; exact h
theorem cut_found {lead : Nat} (xs : List V) (b : Bool) (h : b = decide (0 < lead)) : cutV xs (some (if b = true then 1 else 0)) none = xs.drop (if 0 < lead then 1 else 0) := by
  subst h
  by_cases z : 0 < lead
  · rw [decide_eq_true z, if_pos rfl, if_pos z]
    exact cutV_drop xs 1
  · rw [decide_eq_false z, if_neg (by decide), if_neg z]
    exact cutV_drop xs 0
theorem eqv_ints (l : List Int) : PyData.eqv (.list (dI l)) (.list (dI l)) = true := eqv_self (shaped_ints l)
def dE (e : Int × Kd) : PyData := .tuple [.int e.1, .str e.2.str]
theorem dp_come {K : PySem.W.Frag} {H : Hp} : ∀ {ts : List Addr} {L : List (Int × Kd)}, PairsAt H ts L → DpAll K H (ts.map V.ref) (L.map dE)
  | [], [], _ => .nil
  | [], b :: s, h => by cases h.1
  | a :: r, [], h => by cases h.1
  | a :: r, b :: s, h => .cons (.tup (SqT.of (h.2 0 a b rfl rfl)) (.cons (.int _) (.cons (.str _) .nil))) (dp_come ⟨by simpa using h.1, fun i t e h1 h2 => h.2 (i + 1) t e h1 h2⟩)
theorem lay_dE (e : Int × Kd) : PyData.canLay0 (dE e) = true := by
  have key : ∀ k : Kd, PyData.canLay0 (.str k.str) = true := fun k => by cases k <;> decide +kernel
  show (PyData.canLay0 (.int e.1) && (PyData.canLay0 (.str e.2.str) && true)) = true
  rw [key] <;> rfl
theorem lay_come : ∀ L : List (Int × Kd), PyData.canLayAll0 (L.map dE) = true
  | [] => rfl
  | a :: r => by
    show (PyData.canLay0 (dE a) && PyData.canLayAll0 (r.map dE)) = true
    rw [lay_come r, lay_dE] <;> rfl
theorem depth_come : ∀ L : List (Int × Kd), PyData.depthAll (L.map dE) ≤ 1
  | [] => by decide
  | a :: r => by
    show max (PyData.depth (dE a)) (PyData.depthAll (r.map dE)) ≤ 1
    have := depth_come r
    have e : PyData.depth (dE a) = 1 := rfl
    omega
theorem shaped_come (L : List (Int × Kd)) : SeqAt.shaped (.list (L.map dE)) = true := by
  have h2 : PyData.depth (.list (L.map dE)) ≤ 64 := by
    show PyData.depthAll (L.map dE) + 1 ≤ 64
    have := depth_come L
    omega
  unfold SeqAt.shaped
  rw [show PyData.canLay0 (.list (L.map dE)) = true from lay_come L, decide_eq_true h2]
  rfl
theorem shaped_dE (e : Int × Kd) : SeqAt.shaped (dE e) = true := by
  unfold SeqAt.shaped
  rw [lay_dE e]
  rfl
theorem any_come {L : List (Int × Kd)} {e : Int × Kd} (h : e ∈ L) : ((L.map dE).any fun z => PyData.eqv z (dE e)) = true := List.any_eq_true.mpr ⟨dE e, List.mem_map.mpr ⟨e, h, rfl⟩, SeqAt.eqv_refl _ (lay_dE e)⟩
theorem come_first {ws : List Int} {p : Int} {r : Row} {k : Kd} (h : rowAt ws p = some r) (hk : r.k = k) : (p, k) ∈ comeL ws [p] := by
  unfold comeL
  rw [List.mem_mergeSort]
  exact List.mem_map.mpr ⟨(p, r), trace_first h, by rw [← hk]⟩
theorem eqn_ints {H : Hp} {a b : Addr} {l : List Int} (ha : H a = some (.lst (il l))) (hb : H b = some (.lst (il l))) (hl : l.length ≤ 2000) : EqN 2 H (.ref a) (.ref b) := by
  refine .inr (.inr (.inl ⟨a, b, _, _, rfl, rfl, ha, hb, rfl, by rw [List.length_map]; exact hl, fun i u v h1 h2 => ?_⟩))
  rw [h1] at h2
  cases h2
  obtain ⟨_, e⟩ := ints_get h1
  exact .inl ⟨_, e, e⟩
theorem sum_nf {xs : List Nf} (h : ∀ x ∈ xs, NfOk x) : (((xs.map nfL).map S).map (·.length)).sum ≤ xs.length * 8 := by
  have q := sum_le (M := 8) (ys := (xs.map nfL).map S) fun y hy => by
    obtain ⟨u, hu, rfl⟩ := List.mem_map.mp hy
    obtain ⟨x, hx, rfl⟩ := List.mem_map.mp hu
    rw [S_len]
    exact (nf_word (h x hx)).2
  rw [List.length_map, List.length_map] at q
  exact q
theorem at_natI {bs : List Nat} {j : Nat} (h : j < bs.length) : atI (il (bs.map fun b : Nat => (b : Int))) (j : Int) = some (V.int ((bs.getD j 0 : Nat) : Int)) := by
  refine atI_nat ?_
  show ((bs.map fun b : Nat => (b : Int)).map V.int)[j]? = _
  rw [List.getElem?_map, List.getElem?_map, List.getD_eq_getElem?_getD, List.getElem?_eq_getElem h]
  rfl
theorem units65 {k : Nat} {A : Around} (r : Room (k + 1) A) : A.units + 65 < cLine := by
  have := r.un
  omega
section
variable {P : Program} {w : World} {K : PySem.W.Frag} {mg : Str → Option Value} {base : Heap}
def spLaw04 (K : PySem.W.Frag) : Sp := fun vs H Q _ => ∃ (a : Addr) (ns : List Int), vs = [.ref a] ∧ SqL K H a (ns.map V.int) ∧ Tabs K H ∧ ∀ H', Tabs K H' → Q (.bl true) H'
end
end Rs
namespace Rs
open PySem PySem.Spec PyProof.Rows L2 C8 SX
section
variable {P : Program} {w : World} {K : PySem.W.Frag} {mg : Str → Option Value} {base : Heap}
theorem ok_law04 {fd : FuncData} (F : FnP K "law" "law" sD_law (He.ga K "law") fd) (T : Txt w K mg) (c__law_start : Cal P w K mg base 1 "_law_start" (spStart K) []) (c__law_drawn : Cal P w K mg base 1 "_law_drawn" (spDrawn K) [])
    (c__law_all_codes : Cal P w K mg base 1 "_law_all_codes" spCodes []) (c__law_as_text : Cal P w K mg base 2 "_law_as_text" (spAsText K) []) (c__law_same : Cal P w K mg base 3 "_law_same" (spSame 2) [])
    (c_listed : Cal P w K mg base 13 "listed" (spListed K) []) (c_written : Cal P w K mg base 13 "written" (spWritten K) []) (c_come_to : Cal P w K mg base 7 "come_to" (spCome (tabAt K "come")) []) : FnOk P w K mg base L2.CX0 14 (He.ga K "law") fd ["_law_script"] (spLaw04 K) := by
  refine fnok_of F sc_law (fun vs H Q E h => ?_) (fun cdv A outer s H vs Q E hr h => ?_)
  · obtain ⟨a, ns, rfl, _⟩ := h
    rfl
  · obtain ⟨a, ns, rfl, hS, hT, k⟩ := h
    refine ⟨_, (pss_cons (ps_set (i := 1) sc_law.nd rfl (Or.inr rfl) (pe_c c__law_start hr (by decide) (by rfl) (pa_cons (pv 0) pa_nil)))
  (pss_cons (ps_for PassesOwn.never rfl (pi_list (pe_c0 c__law_all_codes hr (by decide) (by rfl))) (pg_tup rfl (pgs_cons (pg_name (i := 2) sc_law.nd rfl (Or.inr rfl)) (pgs_cons (pg_name (i := 3) sc_law.nd rfl (Or.inl rfl)) (pgs_cons (pg_name (i := 4) sc_law.nd rfl (Or.inl rfl)) (pgs_cons (pg_name (i := 5) sc_law.nd rfl (Or.inl rfl)) pgs_nil)))))
   (pss_cons (ps_setLc (i := 6) (own := [("_law_k", 18)]) (g := gName 18) (by rfl) sc_law.nd rfl rfl (sw_true rfl rfl rfl (by decide +kernel)) (pi_range1 (by rfl) T.free_range (pa_cons (pv 4) pa_nil)) (blkOk_by (own := [("_law_k", 18)]) (N := N_law) (sc := defScope sD_law) (by decide +kernel)) (fun _ _ _ _ _ => (pg_name (i := 18) sc_law.nd rfl (Or.inl rfl))) (fun _ _ _ _ _ => pts_nil) (fun _ _ _ _ _ => (pe_c c__law_drawn hr (by decide) (by rfl) (pa_cons (pv 1) (pa_cons pe_int pa_nil)))))
  (pss_cut (ps_set (i := 7) sc_law.nd rfl (Or.inr rfl) (pe_ifExp (pt_cmpR op_in_seq (pv 2) (pe_tup (pa_cons pe_str (pa_cons pe_str pa_nil))) (by rfl)) (pe_op op_sub pe_int pe_int) pe_int))
  (pss_cut (ps_set (i := 8) sc_law.nd rfl (Or.inr rfl) (pe_ifExp (pt_cmpR op_eq (pv 2) pe_str (nomark _)) pe_int pe_int))
  (pss_cons (ps_setLc (i := 9) (own := [("_law_k", 18)]) (g := gName 18) (by rfl) sc_law.nd rfl rfl (sw_true rfl rfl rfl (by decide +kernel)) (pi_range1 (by rfl) T.free_range (pa_cons (pv 5) pa_nil)) (blkOk_by (own := [("_law_k", 18)]) (N := N_law) (sc := defScope sD_law) (by decide +kernel)) (fun _ _ _ _ _ => (pg_name (i := 18) sc_law.nd rfl (Or.inl rfl))) (fun _ _ _ _ _ => pts_nil) (fun _ _ _ _ _ => (pe_ix (r := rIxL K) ix_list (pe_lst (pa_cons (pv 7) (pa_cons (pv 8) (pa_cons (pe_op op_add (pv 7) (pe_c c__law_drawn hr (by decide) (by rfl) (pa_cons (pv 1) (pa_cons (pe_op op_add (pe_op op_sub (pv 8) (pv 7)) pe_int) pa_nil)))) pa_nil)))) (pe_c c__law_drawn hr (by decide) (by rfl) (pa_cons (pv 1) (pa_cons pe_int pa_nil))) (fun _ _ => rfl))))
  (pss_cons (ps_set (i := 10) sc_law.nd rfl (Or.inl rfl) (pe_op op_add (pv 3) (pe_ix ix_list (pe_lst (pa_cons pe_int (pa_cons (pe_ix ix_list (pe_op op_cat (pv 6) (pe_lst (pa_cons pe_int pa_nil))) pe_int (fun _ _ => rfl)) (pa_cons (pe_op op_add (pe_op op_mul pe_int (pe_ix ix_list (pe_op op_cat (pv 6) (pe_lst (pa_cons pe_int pa_nil))) pe_int (fun _ _ => rfl))) (pe_ix ix_list (pe_op op_cat (pv 6) (pe_lst (pa_cons pe_int (pa_cons pe_int pa_nil)))) pe_int (fun _ _ => rfl))) pa_nil)))) (pv 4) (fun _ _ => rfl))))
  (pss_cons (ps_set (i := 11) sc_law.nd rfl (Or.inr rfl) (pe_c c__law_drawn hr (by decide) (by rfl) (pa_cons (pv 1) (pa_cons pe_int pa_nil))))
  (pss_cons (ps_setLc (i := 12) (own := [("_law_number", 19)]) (g := gName 19) (by rfl) sc_law.nd rfl rfl (sw_true rfl rfl rfl (by decide +kernel)) (pi_list (pv 9)) (blkOk_by (own := [("_law_number", 19)]) (N := N_law) (sc := defScope sD_law) (by decide +kernel)) (fun _ _ _ _ _ => (pg_name (i := 19) sc_law.nd rfl (Or.inl rfl))) (fun _ _ _ _ _ => pts_nil) (fun _ _ _ _ _ => (pe_ifExp (pt_cmpR op_eq (pv 2) pe_str (nomark _)) (pe_op op_add (pe_op op_add (pv 19) (pv 11)) pe_int) (pv 19))))
  (pss_cons (ps_set (i := 13) sc_law.nd rfl (Or.inl rfl) (pe_op op_cat (pe_op op_cat (pe_lst (pa_cons (pv 2) pa_nil)) (pe_lc (own := [("_law_box", 20)]) (g := gName 20) (by rfl) sc_law.nd (pi_list (pv 6)) (blkOk_by (own := [("_law_box", 20)]) (N := N_law) (sc := defScope sD_law) (by decide +kernel)) (fun _ _ _ _ _ => (pg_name (i := 20) sc_law.nd rfl (Or.inl rfl))) (fun _ _ _ _ _ => pts_nil) (fun _ _ _ _ _ => (pe_op op_add_str pe_str (pe_callTy call_str_int (by rfl) T.free_str (by decide +kernel) (pa_cons (pv 20) pa_nil)))))) (pe_lc (own := [("_law_number", 19)]) (g := gName 19) (by rfl) sc_law.nd (pi_list (pv 12)) (blkOk_by (own := [("_law_number", 19)]) (N := N_law) (sc := defScope sD_law) (by decide +kernel)) (fun _ _ _ _ _ => (pg_name (i := 19) sc_law.nd rfl (Or.inl rfl))) (fun _ _ _ _ _ => pts_nil) (fun _ _ _ _ _ => (pe_c c__law_as_text hr (by decide) (by rfl) (pa_cons (pv 1) (pa_cons (pv 19) (pa_cons (pe_lst pa_nil) pa_nil))))))))
  (pss_cons (ps_set (i := 14) sc_law.nd rfl (Or.inl rfl) (pe_bm PySem.F.plainAttrs_str PySem.F.slot_str_join PySem.F.type_str_join mt_join (pe_ix ix_list (pe_lst (pa_cons pe_str (pa_cons pe_str (pa_cons pe_str pa_nil)))) (pe_c c__law_drawn hr (by decide) (by rfl) (pa_cons (pv 1) (pa_cons pe_int pa_nil))) (fun _ _ => rfl)) (pa_cons (pv 13) pa_nil)))
  (pss_cons (ps_set (i := 14) sc_law.nd rfl (Or.inl rfl) (pe_op op_add_str (pe_op op_add_str (pe_ix ix_list (pe_lst (pa_cons pe_str (pa_cons pe_str (pa_cons pe_str pa_nil)))) (pe_c c__law_drawn hr (by decide) (by rfl) (pa_cons (pv 1) (pa_cons pe_int pa_nil))) (fun _ _ => rfl)) (pv 14)) (pe_ix ix_list (pe_lst (pa_cons pe_str (pa_cons pe_str (pa_cons pe_str (pa_cons pe_str pa_nil))))) (pe_c c__law_drawn hr (by decide) (by rfl) (pa_cons (pv 1) (pa_cons pe_int pa_nil))) (fun _ _ => rfl))))
  (pss_cut (ps_set (i := 15) sc_law.nd rfl (Or.inl rfl) (pe_bm PySem.F.plainAttrs_str PySem.F.slot_str_join PySem.F.type_str_join mt_join pe_str (pa_cons (pe_lst (pa_cons pe_str (pa_cons (pe_op op_add_str pe_str (pe_callTy call_str_int (by rfl) T.free_str (by decide +kernel) (pa_cons (pv 11) pa_nil))) (pa_cons (pv 14) pa_nil)))) pa_nil)))
  (pss_cons (ps_set (i := 16) sc_law.nd rfl (Or.inl rfl) (pe_c c_listed hr (by decide) (by rfl) (pa_cons (pv 15) pa_nil)))
  (pss_cons (ps_set (i := 17) sc_law.nd rfl (Or.inl rfl) (pe_tup (pa_cons pe_int (pa_cons (pv 11) (pa_cons (pe_callTy call_tuple_of (by rfl) T.free_tuple (by decide +kernel) (pa_cons (pe_op op_cat (pe_lst (pa_cons (pv 10) pa_nil)) (pe_lc (own := [("_law_number", 19)]) (g := gName 19) (by rfl) sc_law.nd (pi_list (pv 9)) (blkOk_by (own := [("_law_number", 19)]) (N := N_law) (sc := defScope sD_law) (by decide +kernel)) (fun _ _ _ _ _ => (pg_name (i := 19) sc_law.nd rfl (Or.inl rfl))) (fun _ _ _ _ _ => pts_nil) (fun _ _ _ _ _ => (pe_op op_mod (pv 19) pe_int)))) pa_nil)) pa_nil)))))
  (pss_cons (ps_if (PW.pt (pw_or (pt_cmpR (op_neD hr.units) (pe_slice sl_list (pv 16) (po_some (pe_callTy call_int1 (by rfl) T.free_int (by decide +kernel) (pa_cons (pe_cmpR op_gt (pv 11) pe_int (nomark _)) pa_nil))) po_none) (pe_lst (pa_cons (pv 17) pa_nil)) (nomark _)) (pw_or1 (pt_cmpR (op_neD hr.units) (pe_slice sl_list (pe_c c_written hr (by decide) (by rfl) (pa_cons (pv 15) pa_nil)) (po_some (pv 11)) po_none) (pe_callTy call_list_of (by rfl) T.free_list (by decide +kernel) (pa_cons (pe_ix ix_tup (pv 17) pe_int (fun _ _ => rfl)) pa_nil)) (nomark _)))))
   (pss_one (ps_ret pe_bl))
   pss_nil)
  (pss_one (ps_if (pt_cmpR (op_notInD (units65 hr)) (pe_tup (pa_cons (pv 11) (pa_cons (pv 2) pa_nil))) (pe_c c_come_to hr (by decide) (by rfl) (pa_cons (pe_c c_written hr (by decide) (by rfl) (pa_cons (pv 15) pa_nil)) (pa_cons (pe_lst (pa_cons (pv 11) pa_nil)) pa_nil))) (by rfl))
   (pss_one (ps_ret pe_bl))
   pss_nil)))))))))))))))))
  (pss_cons (ps_setLc (i := 9) (own := [("_law_k", 18)]) (g := gName 18) (by rfl) sc_law.nd rfl rfl (sw_true rfl rfl rfl (by decide +kernel)) (pi_range1 (by rfl) T.free_range (pa_cons (pe_op op_add pe_int (pe_c c__law_drawn hr (by decide) (by rfl) (pa_cons (pv 1) (pa_cons pe_int pa_nil)))) pa_nil)) (blkOk_by (own := [("_law_k", 18)]) (N := N_law) (sc := defScope sD_law) (by decide +kernel)) (fun _ _ _ _ _ => (pg_name (i := 18) sc_law.nd rfl (Or.inl rfl))) (fun _ _ _ _ _ => pts_nil) (fun _ _ _ _ _ => (pe_op op_sub (pe_c c__law_drawn hr (by decide) (by rfl) (pa_cons (pv 1) (pa_cons pe_int pa_nil))) pe_int)))
  (pss_cons (ps_set (i := 15) sc_law.nd rfl (Or.inl rfl) (pe_op op_add_str (pe_op op_add_str pe_str (pe_bm PySem.F.plainAttrs_str PySem.F.slot_str_join PySem.F.type_str_join mt_join pe_str (pa_cons (pe_lc (own := [("_law_number", 19)]) (g := gName 19) (by rfl) sc_law.nd (pi_list (pv 9)) (blkOk_by (own := [("_law_number", 19)]) (N := N_law) (sc := defScope sD_law) (by decide +kernel)) (fun _ _ _ _ _ => (pg_name (i := 19) sc_law.nd rfl (Or.inl rfl))) (fun _ _ _ _ _ => pts_nil) (fun _ _ _ _ _ => (pe_c c__law_as_text hr (by decide) (by rfl) (pa_cons (pv 1) (pa_cons (pv 19) (pa_cons (pe_lst pa_nil) pa_nil)))))) pa_nil))) pe_str))
  (pss_one (ps_ret (pe_c c__law_same hr (by decide) (by rfl) (pa_cons (pe_c c_written hr (by decide) (by rfl) (pa_cons (pv 15) pa_nil)) (pa_cons (pe_lc (own := [("_law_number", 19)]) (g := gName 19) (by rfl) sc_law.nd (pi_list (pv 9)) (blkOk_by (own := [("_law_number", 19)]) (N := N_law) (sc := defScope sD_law) (by decide +kernel)) (fun _ _ _ _ _ => (pg_name (i := 19) sc_law.nd rfl (Or.inl rfl))) (fun _ _ _ _ _ => pts_nil) (fun _ _ _ _ _ => (pe_op op_mod (pv 19) pe_int))) pa_nil))))))))), ?_⟩
    refine ⟨_, rfl, a, ns, rfl, hS, fun st mix hst => ?_⟩
    have hSc : Scr K (upd H st (.lst (stt a 0 mix 0))) st a ns := Scr.of hS hst _
    have t0 : St3 (upd H st (.lst (stt a 0 mix 0))) st a := ⟨0, mix, 0, upd_same, by decide⟩
    have hT0 : Tabs K (upd H st (.lst (stt a 0 mix 0))) := fun x hx => (upd_ne (ne_of_none (hT x hx) hst)).trans (hT x hx)
    have nT : ∀ x ∈ gens, tabAt K x ≠ st := fun x hx => ne_of_none (hT x hx) hst
    generalize upd H st (.lst (stt a 0 mix 0)) = H0 at hSc t0 hT0 ⊢
    have tabs : ∀ {H' : Hp}, Pr st H0 H' → Tabs K H' := fun p x hx => p _ _ (hT0 x hx) (nT x hx)
    refine ⟨rfl, fun H1 q ts s1 zq hq hC => ?_⟩
    have nq : q ≠ st := (t0.ne zq).symm
    have c1 : ∀ (i : Nat) (t : Addr) (c : Code), ts[i]? = some t → codes[i]? = some c → H1 t = some (.tup (ctup c)) ∧ t ≠ st := fun i t c e1 e2 => ⟨hC.2 i t c e1 e2, fun z => by
      obtain ⟨i0, m0, r0, e0, _⟩ := t0.same s1
      have := hC.2 i t c e1 e2
      rw [z, e0] at this
      cases this⟩
    refine ⟨q, rfl, ⟨_, SqL.of hq⟩, for_list (K := K) (a := q) (xs := ts.map V.ref) (fun i σ H' => ∃ x2 x3 x4 x5 x6 x7 x8 x9 x10 x11 x12 x13 x14 x15 x16 x17 x18 x19 x20 : Option V, σ = [some (.ref a), some (.ref st), x2, x3, x4, x5, x6, x7, x8, x9, x10, x11, x12, x13, x14, x15, x16, x17, x18, x19, x20] ∧ Pr st H1 H' ∧ St3 H' st a) ⟨_, _, _, _, _, _, _, _, _, _, _, _, _, _, _, _, _, _, _, rfl, Pr.refl _ _, t0.same s1⟩ (fun j σ H' _ ⟨_, _, _, _, _, _, _, _, _, _, _, _, _, _, _, _, _, _, _, _, p, _⟩ => SqL.of (p _ _ hq nq)) ?_ ?_⟩
    · rintro i v σ G0 hi ⟨x2, x3, x4, x5, x6, x7, x8, x9, x10, x11, x12, x13, x14, x15, x16, x17, x18, x19, x20, rfl, p0, u0⟩
      obtain ⟨t, et, rfl⟩ := map_at hi
      have hic : i < codes.length := by
        rw [← hC.1]
        exact (List.getElem?_eq_some_iff.mp et).1
      obtain ⟨c, ec⟩ : ∃ c, codes[i]? = some c := ⟨_, List.getElem?_eq_getElem hic⟩
      have hc : c ∈ codes := List.mem_of_getElem? ec
      obtain ⟨ht, nt⟩ := c1 i t c et ec
      refine ⟨t, _, rfl, SqT.of (p0 _ _ ht nt), rfl, _, _, rfl, _, _, rfl, _, _, rfl, _, _, rfl, rfl, ?_⟩
      obtain ⟨kd, cb, cm, cr⟩ := c
      obtain ⟨cm2, cr2⟩ : cm ≤ 2 ∧ cr ≤ 2 := by
        have key : ∀ c ∈ codes, c.2.2.1 ≤ 2 ∧ c.2.2.2 ≤ 2 := by decide +kernel
        exact key _ hc
      refine ⟨_, rfl, (cm : Int), rfl, by omega, by omega, fun Db hDb => ?_⟩
      have nb : Db ≠ st := (u0.ne hDb).symm
      refine lc_range (n := cm) (fun j H' => ∃ bs : List Nat, H' Db = some (.lst (il (bs.map fun b : Nat => (b : Int)))) ∧ bs.length = j ∧ (∀ b ∈ bs, b < 4) ∧ Pr st G0 H' ∧ St3 H' st a) ⟨[], upd_same, rfl, fun b hb => (by cases hb), (Pr.refl st G0).add hDb, u0.put nb.symm⟩ ?_ ?_
      · rintro j H4 hj ⟨bs, hA, la, ha, p4, t4⟩
        refine ⟨rfl, yes_of ?_⟩
        refine iteT ?_
        refine ⟨_, rfl, st, a, _, ns, rfl, by decide, by decide, t4, hSc.pr ((Same.pr s1 st).trans (p0.trans p4)), fun v5 H5 a5 b5 t5 o5 => ?_⟩
        refine ⟨_, (o5 Db nb).trans hA, ?_, bs ++ [v5.toNat], ?_, by simp [la], fun b hb => ?_, (p4.trans o5.pr).put hDb, t5.put nb.symm⟩
        · rw [List.length_map, List.length_map, la]
          exact Nat.lt_of_lt_of_le hj (Nat.le_trans (show cm ≤ 17 by omega) (by decide))
        · rw [upd_same, List.map_append, il_app]
          show _ = some (HO.lst (il ((bs.map fun b : Nat => (b : Int)) ++ [((v5.toNat : Nat) : Int)])))
          rw [show ((v5.toNat : Nat) : Int) = v5 by omega]
        · rcases List.mem_append.mp hb with z | z
          · exact ha b z
          · rw [List.mem_singleton.mp z]
            omega
      rintro G1 ⟨bs, hB, lb, hb4, p1, u1⟩
      refine ⟨fun σ' H' => σ' = [some (.ref a), some (.ref st), some (.str kd.str), some (.int cb), some (.int (cm : Int)), some (.int (cr : Int)), some (.ref Db), some (.int (if kd.str = ("take!" : Str) ∨ kd.str = ("skip" : Str) then -128 else 0)), x8, x9, x10, x11, x12, x13, x14, x15, x16, x17, x18, x19, x20] ∧ Same G1 H', ?_, ?_⟩
      · refine ⟨_, rfl, (by show 2 ≤ sizeLine; decide), fun q2 hq2 => ⟨q2, _, rfl, .inr (SqT.of upd_same), rfl, rfl, _, rfl, ?_⟩⟩
        rw [in_two kd.str]
        by_cases z : kd.str = ("take!" : Str) ∨ kd.str = ("skip" : Str)
        · rw [decide_eq_true z]
          refine iteT ⟨_, _, rfl, rfl, ?_⟩
          exact ⟨by rw [if_pos z] <;> rfl, Same.new hq2⟩
        · rw [decide_eq_false z]
          refine iteF ?_
          exact ⟨by rw [if_neg z] <;> rfl, Same.new hq2⟩
      rintro σ2 G2 ⟨rfl, s2⟩
      refine ⟨fun σ' H' => σ' = [some (.ref a), some (.ref st), some (.str kd.str), some (.int cb), some (.int (cm : Int)), some (.int (cr : Int)), some (.ref Db), some (.int (if kd.str = ("take!" : Str) ∨ kd.str = ("skip" : Str) then -128 else 0)), some (.int (if kd.str = ("skip" : Str) then 127 else 255)), x9, x10, x11, x12, x13, x14, x15, x16, x17, x18, x19, x20] ∧ H' = G2, ?_, ?_⟩
      · refine ⟨_, rfl, rfl, _, rfl, ?_⟩
        by_cases z : kd.str = ("skip" : Str)
        · refine ite2 (fun _ => ⟨by rw [if_pos z] <;> rfl, rfl⟩) (fun y => absurd (decide_eq_true (by rw [z])) y)
        · refine ite2 (fun y => absurd (V.str.inj (of_decide_eq_true y)) z) (fun _ => ⟨by rw [if_neg z] <;> rfl, rfl⟩)
      rintro σ3 G2b ⟨rfl, eG⟩
      rw [eG]
      clear eG G2b
      generalize hlo : (if kd.str = ("take!" : Str) ∨ kd.str = ("skip" : Str) then (-128 : Int) else 0) = lo
      generalize hhi : (if kd.str = ("skip" : Str) then (127 : Int) else 255) = hi2
      have blo : -128 ≤ lo ∧ lo ≤ 0 := by
        rw [← hlo]
        split <;> decide
      have bhi : 127 ≤ hi2 ∧ hi2 ≤ 255 := by
        rw [← hhi]
        split <;> decide
      have p2 : Pr st H0 G2 := (Same.pr s1 st).trans (p0.trans (p1.trans (Same.pr s2 st)))
      have u2 := u1.same s2
      have hB2 := s2 _ _ hB
      refine ⟨_, rfl, (cr : Int), rfl, by omega, by omega, fun Dn hDn => ?_⟩
      have nn : Dn ≠ st := (u2.ne hDn).symm
      refine lc_range (n := cr) (fun j H' => ∃ ms : List Int, H' Dn = some (.lst (il ms)) ∧ ms.length = j ∧ (∀ n ∈ ms, lo ≤ n ∧ n ≤ hi2) ∧ Pr st G2 H' ∧ St3 H' st a) ⟨[], upd_same, rfl, fun b hb => (by cases hb), (Pr.refl st G2).add hDn, u2.put nn.symm⟩ ?_ ?_
      · rintro j H4 hj ⟨ms, hA, la, ha, p4, t4⟩
        refine ⟨rfl, yes_of ?_⟩
        refine iteT ?_
        refine ⟨_, rfl, _, rfl, _, rfl, _, rfl, _, rfl, _, rfl, _, _, rfl, rfl, _, _, rfl, rfl, st, a, _, ns, rfl, by omega, by omega, t4, hSc.pr (p2.trans p4), fun v5 H5 a5 b5 t5 o5 => ?_⟩
        refine ⟨_, _, rfl, rfl, (by show 3 ≤ sizeLine; decide), fun l hl => ?_⟩
        have nl : l ≠ st := (t5.ne hl).symm
        have nlD : Dn ≠ l := ne_of_none ((o5 Dn nn).trans hA) hl
        refine ⟨_, rfl, st, a, _, ns, rfl, by decide, by decide, t5.put nl.symm, hSc.pr ((p2.trans (p4.trans o5.pr)).add hl), fun v7 H7 a7 b7 t7 o7 => ?_⟩
        refine ⟨l, _, v7, .int (([lo, hi2, lo + v5] : List Int).getD v7.toNat 0), rfl, rfl, SqL.of ((o7 l nl).trans upd_same), ?_, ?_⟩
        · have hv : v7 = 0 ∨ v7 = 1 ∨ v7 = 2 := by omega
          rcases hv with rfl | rfl | rfl <;> rfl
        have hv : lo ≤ ([lo, hi2, lo + v5] : List Int).getD v7.toNat 0 ∧ ([lo, hi2, lo + v5] : List Int).getD v7.toNat 0 ≤ hi2 := by
          have hv : v7 = 0 ∨ v7 = 1 ∨ v7 = 2 := by omega
          rcases hv with rfl | rfl | rfl
          · show lo ≤ lo ∧ lo ≤ hi2
            omega
          · show lo ≤ hi2 ∧ hi2 ≤ hi2
            omega
          · show lo ≤ lo + v5 ∧ lo + v5 ≤ hi2
            omega
        generalize ([lo, hi2, lo + v5] : List Int).getD v7.toNat 0 = nv at hv
        refine ⟨_, (o7 Dn nn).trans ((upd_ne nlD).trans ((o5 Dn nn).trans hA)), ?_, ms ++ [nv], ?_, by simp [la], fun b hb => ?_, ?_, t7.put nn.symm⟩
        · rw [List.length_map, la]
          exact Nat.lt_of_lt_of_le hj (Nat.le_trans (show cr ≤ 17 by omega) (by decide))
        · rw [upd_same, il_app]
        · rcases List.mem_append.mp hb with z | z
          · exact ha b z
          · rw [List.mem_singleton.mp z]
            exact hv
        · exact (((p4.trans o5.pr).add hl).trans o7.pr).put hDn
      rintro G3 ⟨ms, hM, lm, hms, p3, u3⟩
      have hB3 := p3 _ _ hB2 nb
      have ff := first_facts hc (bs := bs) lb hb4
      -- the first word
      refine ⟨_, rfl, _, rfl, Nat.le_of_lt (show 1 < sizeLine by decide), fun l1 hl1 => ?_⟩
      have s31 := Same.new (o := .lst [V.int 0]) hl1
      refine ⟨_, _, _, _, rfl, rfl, s31 _ _ hB3, upd_same, ?_, fun pp1 hpp1 => ?_⟩
      · rw [List.length_map, List.length_map, lb]
        exact Nat.le_trans (show cm + 1 ≤ 17 by omega) (by decide)
      rw [il_n1 bs]
      have s3a := s31.add (o := .lst (il ((bs ++ [0]).map fun b : Nat => (b : Int)))) hpp1
      refine ⟨pp1, _, _, _, rfl, rfl, SqL.of upd_same, at_natI (j := 0) (by simp), ?_⟩
      generalize upd (upd G3 l1 (.lst [V.int 0])) pp1 (.lst (il ((bs ++ [0]).map fun b : Nat => (b : Int)))) = J1 at s3a ⊢
      refine ⟨_, rfl, Nat.le_of_lt (show 1 < sizeLine by decide), fun l2 hl2 => ?_⟩
      have s32 := s3a.add (o := .lst [V.int 0]) hl2
      refine ⟨_, _, _, _, rfl, rfl, s32 _ _ hB3, upd_same, ?_, fun p2' hp2 => ?_⟩
      · rw [List.length_map, List.length_map, lb]
        exact Nat.le_trans (show cm + 1 ≤ 17 by omega) (by decide)
      rw [il_n1 bs]
      have s3b := s32.add (o := .lst (il ((bs ++ [0]).map fun b : Nat => (b : Int)))) hp2
      refine ⟨p2', _, _, _, rfl, rfl, SqL.of upd_same, at_natI (j := 0) (by simp), ?_⟩
      generalize upd (upd J1 l2 (.lst [V.int 0])) p2' (.lst (il ((bs ++ [0]).map fun b : Nat => (b : Int)))) = J2 at s3b ⊢
      refine ⟨_, _, rfl, rfl, .inl ⟨by decide, by decide⟩, ?_⟩
      refine ⟨_, rfl, (by show 2 ≤ sizeLine; decide), fun l3 hl3 => ?_⟩
      have s33 := s3b.add (o := .lst [V.int 0, V.int 0]) hl3
      refine ⟨_, _, _, _, rfl, rfl, s33 _ _ hB3, upd_same, ?_, fun p3' hp3 => ?_⟩
      · rw [List.length_map, List.length_map, lb]
        exact Nat.le_trans (show cm + 2 ≤ 17 by omega) (by decide)
      rw [il_n2 bs]
      have s3c := s33.add (o := .lst (il ((bs ++ [0, 0]).map fun b : Nat => (b : Int)))) hp3
      refine ⟨p3', _, _, _, rfl, rfl, SqL.of upd_same, at_natI (j := 1) (by simp), ?_⟩
      generalize upd (upd J2 l3 (.lst [V.int 0, V.int 0])) p3' (.lst (il ((bs ++ [0, 0]).map fun b : Nat => (b : Int)))) = J3 at s3c ⊢
      refine ⟨_, _, rfl, rfl, (by show 3 ≤ sizeLine; decide), fun l4 hl4 => ?_⟩
      have s3d := s3c.add (o := .lst [V.int 0, V.int ((bs ++ [0]).getD 0 0 : Nat), V.int (4 * ((bs ++ [0]).getD 0 0 : Nat) + ((bs ++ [0, 0]).getD 1 0 : Nat))]) hl4
      obtain ⟨dw, hdw⟩ : ∃ dw : Int, firstW kd.str (bs.map fun b : Nat => (b : Int)) = cb + dw := ⟨_, ff.2.2.2.2⟩
      refine ⟨_, rfl, l4, _, (cm : Int), .int dw, rfl, rfl, SqL.of upd_same, ?_, ?_⟩
      · have hv : cm = 0 ∨ cm = 1 ∨ cm = 2 := by omega
        rcases hv with rfl | rfl | rfl
        · have e : firstW kd.str (bs.map fun b : Nat => (b : Int)) = cb + 0 := ff.2.2.2.2
          have e2 : dw = 0 := by omega
          rw [e2] <;> rfl
        · have e : firstW kd.str (bs.map fun b : Nat => (b : Int)) = cb + ((bs ++ [0]).getD 0 0 : Nat) := ff.2.2.2.2
          have e2 : dw = ((bs ++ [0]).getD 0 0 : Nat) := by omega
          rw [e2] <;> rfl
        · have e : firstW kd.str (bs.map fun b : Nat => (b : Int)) = cb + (4 * ((bs ++ [0]).getD 0 0 : Nat) + ((bs ++ [0, 0]).getD 1 0 : Nat)) := ff.2.2.2.2
          have e2 : dw = 4 * ((bs ++ [0]).getD 0 0 : Nat) + ((bs ++ [0, 0]).getD 1 0 : Nat) := by omega
          rw [e2] <;> rfl
      refine ⟨_, _, rfl, rfl, ?_⟩
      generalize upd J3 l4 (.lst [V.int 0, V.int ((bs ++ [0]).getD 0 0 : Nat), V.int (4 * ((bs ++ [0]).getD 0 0 : Nat) + ((bs ++ [0, 0]).getD 1 0 : Nat))]) = J4 at s3d ⊢
      have p4 := p3.trans (Same.pr s3d st)
      have u4 := u3.same s3d
      have hB4 := s3d _ _ hB3
      have hM4 := s3d _ _ hM
      clear s31 s3a s32 s3b s33 s3c ff
      -- what lies ahead
      refine ⟨_, rfl, st, a, _, ns, rfl, by decide, by decide, u4, hSc.pr (p2.trans p4), fun v5 G5 a5 b5 u5 o5 => ?_⟩
      obtain ⟨lead, rfl⟩ : ∃ m : Nat, v5 = (m : Int) := ⟨v5.toNat, by omega⟩
      have hlead : lead < 60 := by omega
      have p5 := p4.trans o5.pr
      have hB5 := (o5 Db nb).trans hB4
      have hM5 := (o5 Dn nn).trans hM4
      -- what is shown
      refine ⟨_, rfl, Dn, rfl, ⟨_, SqL.of hM5⟩, fun Ds hDs => ?_⟩
      have nDs : Ds ≠ st := (u5.ne hDs).symm
      refine lc_list (K := K) (a := Dn) (xs := il ms) (fun j H' => Same G5 H' ∧ H' Ds = some (.lst (il ((ms.take j).map (shF kd lead))))) ⟨Same.new hDs, upd_same⟩ (fun i H' _ ⟨z, _⟩ => SqL.of (z _ _ hM5)) ?_ ?_
      · rintro j x H5 hx ⟨s5, h5⟩
        obtain ⟨hj, rfl⟩ := ints_get hx
        have hz : (il ((ms.take j).map (shF kd lead))).length < sizeLine := by
          rw [List.length_map, List.length_map, List.length_take]
          exact Nat.lt_of_le_of_lt (show min j ms.length ≤ 17 by omega) (by decide)
        refine ⟨rfl, yes_of (iteT ⟨_, rfl, rfl, _, rfl, ?_⟩)⟩
        refine ite2 (fun y => ?_) (fun y => ?_)
        · have y := V.str.inj (of_decide_eq_true y)
          refine ⟨_, rfl, _, rfl, _, _, rfl, rfl, _, _, rfl, rfl, _, h5, hz, s5.putNew hDs, ?_⟩
          rw [upd_same, take_snocI hj, List.map_append]
          show _ = some (HO.lst (il ((ms.take j).map (shF kd lead) ++ [if kd.str = ("skip" : Str) then ms.getD j 0 + lead + 2 else ms.getD j 0])))
          rw [il_app, if_pos y]
        · have y : ¬ kd.str = ("skip" : Str) := fun z => y (decide_eq_true (by rw [z]))
          refine ⟨_, rfl, _, h5, hz, s5.putNew hDs, ?_⟩
          rw [upd_same, take_snocI hj, List.map_append]
          show _ = some (HO.lst (il ((ms.take j).map (shF kd lead) ++ [if kd.str = ("skip" : Str) then ms.getD j 0 + lead + 2 else ms.getD j 0])))
          rw [il_app, if_neg y]
      rintro G6 ⟨s6, hS6⟩
      rw [show (ms.take (il ms).length) = ms by rw [List.length_map]; exact List.take_length] at hS6
      have p6 := p5.trans (Same.pr s6 st)
      have u6 := u5.same s6
      have hB6 := s6 _ _ hB5
      have hM6 := s6 _ _ hM5
      clear s6 hB5 hM5 hB4 hM4 hB3 hM hB2 s3d
      -- the words of the row
      refine ⟨_, rfl, Nat.le_of_lt (show 1 < sizeLine by decide), fun l5 hl5 => ?_⟩
      have nl5 : l5 ≠ st := (u6.ne hl5).symm
      have p7 := p6.trans (Same.pr (Same.new (o := .lst [V.str kd.str]) hl5) st)
      have u7 := u6.same (Same.new (o := .lst [V.str kd.str]) hl5)
      have hB7 := Same.new (o := .lst [V.str kd.str]) hl5 _ _ hB6
      have hM7 := Same.new (o := .lst [V.str kd.str]) hl5 _ _ hM6
      have hS7 := Same.new (o := .lst [V.str kd.str]) hl5 _ _ hS6
      have e7 : upd G6 l5 (.lst [V.str kd.str]) l5 = some (.lst (ss [opL kd.str])) := by
        rw [upd_same]
        show _ = some (HO.lst [V.str (S (opL kd.str))])
        rw [opL_S]
      generalize upd G6 l5 (.lst [V.str kd.str]) = G7 at p7 u7 hB7 hM7 hS7 e7 ⊢
      refine ⟨_, rfl, Db, rfl, ⟨_, SqL.of hB7⟩, fun Dx hDx => ?_⟩
      have nDx : Dx ≠ st := (u7.ne hDx).symm
      refine lc_list (K := K) (a := Db) (xs := il (bs.map fun b : Nat => (b : Int))) (fun j H' => Same G7 H' ∧ H' Dx = some (.lst (ss ((bs.take j).map boxL)))) ⟨Same.new hDx, upd_same⟩ (fun i H' _ ⟨z, _⟩ => SqL.of (z _ _ hB7)) ?_ ?_
      · rintro j x H5 hx ⟨s5, h5⟩
        obtain ⟨hj, rfl⟩ := ints_get hx
        have hj2 : j < bs.length := by rw [List.length_map] at hj; exact hj
        have hbj : bs.getD j 0 < 4 := hb4 _ (getD_memN hj2)
        have ebj : (bs.map fun b : Nat => (b : Int)).getD j 0 = ((bs.getD j 0 : Nat) : Int) := by
          rw [List.getD_eq_getElem?_getD, List.getD_eq_getElem?_getD, List.getElem?_map, List.getElem?_eq_getElem hj2]
          rfl
        rw [ebj]
        refine ⟨rfl, yes_of (iteT ⟨_, rfl, _, rfl, lg1000 (by omega), _, _, rfl, rfl, ?_, ?_⟩)⟩
        · have := str_len (i := ((bs.getD j 0 : Nat) : Int)) (by omega) (by omega)
          have e1 : ("r" : Str).length = 1 := by decide
          have : (100 : Nat) ≤ sizeLine := by decide
          omega
        rw [box_text _ (by omega)]
        refine ⟨_, h5, ?_, s5.putNew hDx, ?_⟩
        · show (((((bs.take j).map boxL).map S).map V.str)).length < sizeLine
          rw [List.length_map, List.length_map, List.length_map, List.length_take]
          exact Nat.lt_of_le_of_lt (show min j bs.length ≤ 17 by omega) (by decide)
        · rw [upd_same, take_snocN hj2, List.map_append, ss_app]
          rfl
      rintro G8 ⟨s8, hX8⟩
      rw [show bs.take (il (bs.map fun b : Nat => (b : Int))).length = bs by rw [List.length_map, List.length_map]; exact List.take_length] at hX8
      have p8 := p7.trans (Same.pr s8 st)
      have u8 := u7.same s8
      have hS8 := s8 _ _ hS7
      have hM8 := s8 _ _ hM7
      refine ⟨_, _, _, _, rfl, rfl, s8 _ _ e7, hX8, ?_, fun l9 hl9 => ?_⟩
      · show (ss [opL kd.str]).length + (((bs.map boxL).map S).map V.str).length ≤ sizeLine
        rw [List.length_map, List.length_map, List.length_map, lb]
        exact Nat.le_trans (show 1 + cm ≤ 17 by omega) (by decide)
      rw [← ss_app]
      have nl9 : l9 ≠ st := (u8.ne hl9).symm
      have s9 := Same.new (o := .lst (ss ([opL kd.str] ++ bs.map boxL))) hl9
      have e9 : upd G8 l9 (.lst (ss ([opL kd.str] ++ bs.map boxL))) l9 = some (.lst (ss ([opL kd.str] ++ bs.map boxL))) := upd_same
      have p9 := p8.trans (Same.pr s9 st)
      have u9 := u8.same s9
      have hS9 := s9 _ _ hS8
      have hM9 := s9 _ _ hM8
      generalize upd G8 l9 (.lst (ss ([opL kd.str] ++ bs.map boxL))) = G9 at p9 u9 hS9 hM9 e9 ⊢
      clear s9 s8 hS8 hM8 hX8 e7 hS7 hM7 hB7 hS6 hM6 hB6
      refine ⟨_, rfl, Ds, rfl, ⟨_, SqL.of hS9⟩, fun Dy hDy => ?_⟩
      have nDy : Dy ≠ st := (u9.ne hDy).symm
      have shb : ∀ n ∈ ms, -400 ≤ shF kd lead n ∧ shF kd lead n ≤ 400 := fun n hn => by
        have := hms n hn
        unfold shF
        split <;> omega
      refine lc_list (K := K) (a := Ds) (xs := il (ms.map (shF kd lead))) (fun j H' => ∃ xs : List Nf, H' Dy = some (.lst (ss (xs.map nfL))) ∧ xs.length = j ∧ xs.map (·.1) = (ms.take j).map (shF kd lead) ∧ (∀ x ∈ xs, NfOk x) ∧ Pr st G9 H' ∧ St3 H' st a) ⟨[], upd_same, rfl, rfl, fun b hb => (by cases hb), (Pr.refl st G9).add hDy, u9.put nDy.symm⟩ (fun i H' _ ⟨_, _, _, _, _, z, _⟩ => SqL.of (z _ _ hS9 nDs)) ?_ ?_
      · rintro j x H5 hx ⟨xs, h5, lx, ex, hxo, q5, t5⟩
        obtain ⟨hj, rfl⟩ := ints_get hx
        have hj2 : j < ms.length := by rw [List.length_map] at hj; exact hj
        have enj : (ms.map (shF kd lead)).getD j 0 = shF kd lead (ms.getD j 0) := by
          rw [List.getD_eq_getElem?_getD, List.getD_eq_getElem?_getD, List.getElem?_map, List.getElem?_eq_getElem hj2]
          rfl
        have hb := shb _ (getD_mem hj2)
        rw [enj]
        refine ⟨rfl, yes_of (iteT ⟨_, rfl, _, rfl, Nat.zero_le _, fun e he => ?_⟩)⟩
        have ne : e ≠ st := (t5.ne he).symm
        have nDe : Dy ≠ e := ne_of_none h5 he
        refine ⟨st, a, e, _, ns, rfl, hb.1, hb.2, t5.put ne.symm, hSc.pr ((p2.trans (p9.trans q5)).add he), fun m f H7 hm t7 o7 => ?_⟩
        have h7 := o7 _ _ ((upd_ne nDe).trans h5) nDy
        refine ⟨_, h7, ?_, xs ++ [(shF kd lead (ms.getD j 0), m, f)], ?_, by simp [lx], ?_, fun y hy => ?_, ((q5.add he).trans o7).put hDy, t7.put nDy.symm⟩
        · show (((xs.map nfL).map S).map V.str).length < sizeLine
          rw [List.length_map, List.length_map, List.length_map, lx]
          exact Nat.lt_of_le_of_lt (show j ≤ 17 by omega) (by decide)
        · rw [upd_same, List.map_append, ss_app]
          rfl
        · rw [List.map_append, take_snocI hj2, List.map_append, ex]
          rfl
        · rcases List.mem_append.mp hy with z | z
          · exact hxo y z
          · rw [List.mem_singleton.mp z]
            exact ⟨hb.1, hb.2, hm⟩
      rintro G10 ⟨xs, hY, lx, ex, hxo, p10', u10⟩
      have lx2 : xs.length = ms.length := by rw [lx, List.length_map, List.length_map]
      rw [show ms.take (il (ms.map (shF kd lead))).length = ms by rw [List.length_map, List.length_map]; exact List.take_length] at ex
      have p10 := p9.trans p10'
      have hM10 := p10' _ _ hM9 nn
      have e10 := p10' _ _ e9 nl9
      refine ⟨_, _, _, _, rfl, rfl, e10, hY, ?_, fun l11 hl11 => ?_⟩
      · show (((([opL kd.str] ++ bs.map boxL)).map S).map V.str).length + (((xs.map nfL).map S).map V.str).length ≤ sizeLine
        rw [List.length_map, List.length_map, List.length_map, List.length_map, List.length_map, List.length_append, List.length_map, lb, lx2, lm]
        exact Nat.le_trans (show 1 + cm + cr ≤ 17 by omega) (by decide)
      rw [← ss_app, show [opL kd.str] ++ bs.map boxL ++ xs.map nfL = w04 (kd, cb, cm, cr) bs xs from rfl]
      have hW := w04_ok hc (bs := bs) (xs := xs) hb4 hxo
      have lW : (w04 (kd, cb, cm, cr) bs xs).length ≤ 5 := by
        show (([opL kd.str] ++ (bs.map boxL ++ xs.map nfL))).length ≤ 5
        rw [List.length_append, List.length_append, List.length_map, List.length_map, lb, lx2, lm]
        show 1 + (cm + cr) ≤ 5
        omega
      have nl11 : l11 ≠ st := (u10.ne hl11).symm
      have s11 := Same.new (o := .lst (ss (w04 (kd, cb, cm, cr) bs xs))) hl11
      have e11 : upd G10 l11 (.lst (ss (w04 (kd, cb, cm, cr) bs xs))) l11 = some (.lst (ss (w04 (kd, cb, cm, cr) bs xs))) := upd_same
      have p11 := p10.trans (Same.pr s11 st)
      have u11 := u10.same s11
      have hM11 := s11 _ _ hM10
      generalize upd G10 l11 (.lst (ss (w04 (kd, cb, cm, cr) bs xs))) = G11 at p11 u11 hM11 e11 ⊢
      clear s11 hM10 hM9 e10 e9 hY p10 p10' hS9
      -- the row
      refine ⟨(by show 3 ≤ sizeLine; decide), fun l12 hl12 => ?_⟩
      have nl12 : l12 ≠ st := (u11.ne hl12).symm
      have p12 := p11.add (o := .lst [V.str " ", V.str "  ", V.str "   "]) hl12
      have e12 : upd G11 l12 (.lst [V.str " ", V.str "  ", V.str "   "]) l12 = some (.lst (([" ", "  ", "   "] : List Str).map V.str)) := upd_same
      have e11' := (upd_ne (o := .lst [V.str " ", V.str "  ", V.str "   "]) (ne_of_none e11 hl12)).trans e11
      have hM12 := (upd_ne (o := .lst [V.str " ", V.str "  ", V.str "   "]) (ne_of_none hM11 hl12)).trans hM11
      have u12 := u11.put (o := .lst [V.str " ", V.str "  ", V.str "   "]) nl12.symm
      generalize upd G11 l12 (.lst [V.str " ", V.str "  ", V.str "   "]) = G12 at p12 e12 e11' hM12 u12 ⊢
      refine ⟨_, rfl, st, a, _, ns, rfl, by decide, by decide, u12, hSc.pr (p2.trans p12), fun v13 G13 a13 b13 u13 o13 => ?_⟩
      obtain ⟨k, rfl⟩ : ∃ m : Nat, v13 = (m : Int) := ⟨v13.toNat, by omega⟩
      have hk : k < 3 := by omega
      have p13 := p12.trans o13.pr
      have e13 := (o13 l11 nl11).trans e11'
      have hM13 := (o13 Dn nn).trans hM12
      have e8s : ∀ y ∈ (w04 (kd, cb, cm, cr) bs xs).map S, y.length ≤ 8 := fun y hy => by
        obtain ⟨u, hu, rfl⟩ := List.mem_map.mp hy
        rw [S_len]
        exact (hW u hu).2
      have lsep : (([" ", "  ", "   "] : List Str).getD k "").length ≤ 3 := by
        have hv : k = 0 ∨ k = 1 ∨ k = 2 := by omega
        rcases hv with rfl | rfl | rfl <;> decide
      refine ⟨l12, _, (k : Int), .str (([" ", "  ", "   "] : List Str).getD k ""), rfl, rfl, SqL.of ((o13 l12 nl12).trans e12), ?_, (rfl : ("str" : String) = "str"), _, rfl, _, l11, (w04 (kd, cb, cm, cr) bs xs).map S, rfl, rfl, .inl (SqL.of e13), ?_, ?_⟩
      · have hv : k = 0 ∨ k = 1 ∨ k = 2 := by omega
        rcases hv with rfl | rfl | rfl <;> rfl
      · have q1 := sum_le e8s
        have q2 : ((w04 (kd, cb, cm, cr) bs xs).map S).length * (([" ", "  ", "   "] : List Str).getD k "").length ≤ 5 * 3 := Nat.mul_le_mul (by rw [List.length_map]; exact lW) lsep
        have q3 : ((w04 (kd, cb, cm, cr) bs xs).map S).length ≤ 5 := by rw [List.length_map]; exact lW
        omega
      have ljn : (Txt.join (([" ", "  ", "   "] : List Str).getD k "") ((w04 (kd, cb, cm, cr) bs xs).map S)).length ≤ 100 := by
        rw [sep_S k hk, join_S, S_len]
        have q := joinL_len (k := k + 1) (M := 8) fun u hu => (hW u hu).2
        have q2 : (w04 (kd, cb, cm, cr) bs xs).length * (8 + (k + 1)) ≤ 5 * 11 := Nat.mul_le_mul lW (by omega)
        omega
      -- what stands ahead of it and behind
      refine ⟨(by show 3 ≤ sizeLine; decide), fun l14 hl14 => ?_⟩
      have nl14 : l14 ≠ st := (u13.ne hl14).symm
      have p14 := p13.add (o := .lst [V.str "", V.str "name: ", V.str "  "]) hl14
      have e14 : upd G13 l14 (.lst [V.str "", V.str "name: ", V.str "  "]) l14 = some (.lst (([("" : Str), "name: ", "  "] : List Str).map V.str)) := upd_same
      have hM14 := (upd_ne (o := .lst [V.str "", V.str "name: ", V.str "  "]) (ne_of_none hM13 hl14)).trans hM13
      have u14 := u13.put (o := .lst [V.str "", V.str "name: ", V.str "  "]) nl14.symm
      generalize upd G13 l14 (.lst [V.str "", V.str "name: ", V.str "  "]) = G14 at p14 e14 hM14 u14 ⊢
      refine ⟨_, rfl, st, a, _, ns, rfl, by decide, by decide, u14, hSc.pr (p2.trans p14), fun v15 G15 a15 b15 u15 o15 => ?_⟩
      obtain ⟨ip, rfl⟩ : ∃ m : Nat, v15 = (m : Int) := ⟨v15.toNat, by omega⟩
      have hip : ip < 3 := by omega
      have p15 := p14.trans o15.pr
      have hM15 := (o15 Dn nn).trans hM14
      have lpre : (([("" : Str), "name: ", "  "] : List Str).getD ip "").length ≤ 6 := by
        have hv : ip = 0 ∨ ip = 1 ∨ ip = 2 := by omega
        rcases hv with rfl | rfl | rfl <;> decide
      have sl : (1000 : Nat) ≤ sizeLine := by decide
      refine ⟨l14, _, (ip : Int), .str (([("" : Str), "name: ", "  "] : List Str).getD ip ""), rfl, rfl, SqL.of ((o15 l14 nl14).trans e14), ?_, _, rfl, _, _, rfl, rfl, by omega, ?_⟩
      · have hv : ip = 0 ∨ ip = 1 ∨ ip = 2 := by omega
        rcases hv with rfl | rfl | rfl <;> rfl
      refine ⟨(by show 4 ≤ sizeLine; decide), fun l16 hl16 => ?_⟩
      have nl16 : l16 ≠ st := (u15.ne hl16).symm
      have p16 := p15.add (o := .lst [V.str "", V.str " ", V.str " ; stop", V.str ";"]) hl16
      have e16 : upd G15 l16 (.lst [V.str "", V.str " ", V.str " ; stop", V.str ";"]) l16 = some (.lst (([("" : Str), " ", " ; stop", ";"] : List Str).map V.str)) := upd_same
      have hM16 := (upd_ne (o := .lst [V.str "", V.str " ", V.str " ; stop", V.str ";"]) (ne_of_none hM15 hl16)).trans hM15
      have u16 := u15.put (o := .lst [V.str "", V.str " ", V.str " ; stop", V.str ";"]) nl16.symm
      generalize upd G15 l16 (.lst [V.str "", V.str " ", V.str " ; stop", V.str ";"]) = G16 at p16 e16 hM16 u16 ⊢
      refine ⟨_, rfl, st, a, _, ns, rfl, by decide, by decide, u16, hSc.pr (p2.trans p16), fun v17 G17 a17 b17 u17 o17 => ?_⟩
      obtain ⟨js, rfl⟩ : ∃ m : Nat, v17 = (m : Int) := ⟨v17.toNat, by omega⟩
      have hjs : js < 4 := by omega
      have p17 := p16.trans o17.pr
      have hM17 := (o17 Dn nn).trans hM16
      have lsuf : (([("" : Str), " ", " ; stop", ";"] : List Str).getD js "").length ≤ 7 := by
        have hv : js = 0 ∨ js = 1 ∨ js = 2 ∨ js = 3 := by omega
        rcases hv with rfl | rfl | rfl | rfl <;> decide
      have cat : ∀ x y : Str, (x ++ y).length = x.length + y.length := fun x y => by
        rw [← S_tl x, ← S_tl y, S_cat, S_len, S_len, S_len, List.length_append]
      refine ⟨l16, _, (js : Int), .str (([("" : Str), " ", " ; stop", ";"] : List Str).getD js ""), rfl, rfl, SqL.of ((o17 l16 nl16).trans e16), ?_, _, _, rfl, rfl, by rw [cat]; omega, ?_⟩
      · have hv : js = 0 ∨ js = 1 ∨ js = 2 ∨ js = 3 := by omega
        rcases hv with rfl | rfl | rfl | rfl <;> rfl
      have lrow : (S (rowL ip k js (w04 (kd, cb, cm, cr) bs xs))).length ≤ 200 := by
        rw [← row_text hip hk hjs, cat, cat]
        omega
      rw [row_text hip hk hjs]
      clear p12 e12 e11' hM12 u12 p13 e13 hM13 p14 e14 hM14 u14 p15 hM15 p16 e16 hM16 u16 e8s lsep ljn lpre lsuf o13 o15 o17 u13 u15 u11 p11 hM11 e11 hl11 hl12 hl14 hl16
      -- the text
      refine ⟨fun σ' H' => ∃ y12 y13 y14 : Option V, σ' = [some (.ref a), some (.ref st), some (.str kd.str), some (.int cb), some (.int (cm : Int)), some (.int (cr : Int)), some (.ref Db), some (.int lo), some (.int hi2), some (.ref Dn), some (.int (cb + dw)), some (.int (lead : Int)), y12, y13, y14, some (.str (S (textL ip k js lead (w04 (kd, cb, cm, cr) bs xs)))), x16, x17, x18, x19, x20] ∧ Pr st G2 H' ∧ St3 H' st a ∧ H' Dn = some (.lst (il ms)), ?_, ?_⟩
      · refine ⟨(rfl : ("str" : String) = "str"), _, rfl, _, rfl, lg1000 (by omega), _, _, rfl, rfl, ?_, ?_⟩
        · have := str_len (i := (lead : Int)) (by omega) (by omega)
          have e1 : ("room " : Str).length = 5 := by decide
          omega
        rw [room_text]
        refine ⟨_, rfl, (by show 3 ≤ sizeLine; decide), fun l18 hl18 => ?_⟩
        have nl18 : l18 ≠ st := (u17.ne hl18).symm
        refine ⟨_, l18, [("is five 5" : Str), S (roomL lead), S (rowL ip k js (w04 (kd, cb, cm, cr) bs xs))], rfl, rfl, .inl (SqL.of upd_same), ?_, ?_⟩
        · have q1 := str_len (i := (lead : Int)) (by omega) (by omega)
          have q2 : (S (roomL lead)).length ≤ 8 := by
            rw [← room_text, cat]
            have e1 : ("room " : Str).length = 5 := by decide
            omega
          have q3 : ("is five 5" : Str).length = 9 := by decide
          have q4 : ("\n" : Str).length = 1 := by decide
          show (("is five 5" : Str).length + ((S (roomL lead)).length + ((S (rowL ip k js (w04 (kd, cb, cm, cr) bs xs))).length + 0))) + 3 * ("\n" : Str).length ≤ 16777216
          omega
        rw [text_text]
        have p18 := p17.add (o := .lst [V.str "is five 5", V.str (S (roomL lead)), V.str (S (rowL ip k js (w04 (kd, cb, cm, cr) bs xs)))]) hl18
        have hM18 := (upd_ne (o := .lst [V.str "is five 5", V.str (S (roomL lead)), V.str (S (rowL ip k js (w04 (kd, cb, cm, cr) bs xs)))]) (ne_of_none hM17 hl18)).trans hM17
        have u18 := u17.put (o := .lst [V.str "is five 5", V.str (S (roomL lead)), V.str (S (rowL ip k js (w04 (kd, cb, cm, cr) bs xs)))]) nl18.symm
        exact ⟨_, _, _, rfl, p18, u18, hM18⟩
      clear p17 hM17 u17 lrow
      rintro σ18 G18 ⟨y12, y13, y14, rfl, p18, u18, hM18⟩
      obtain ⟨hTx, hPl, pg, epg, ewr, els⟩ := text04 hc (i := ip) (k := k) (j := js) (lead := lead) hk hlead (bs := bs) (xs := xs) (ns := ms.map fun n => n % 256) lb hb4 (lx2.trans lm) hxo (fit04 hc (lead := lead) ex fun n hn => by
        have := hms n hn
        rw [hlo, hhi]
        exact this)
      generalize S (textL ip k js lead (w04 (kd, cb, cm, cr) bs xs)) = text at hTx hPl epg ⊢
      rw [show firstW ((kd, cb, cm, cr) : Code).1.str (bs.map fun b : Nat => (b : Int)) = cb + dw from hdw] at ewr els
      have hT18 : Tabs K G18 := tabs (p2.trans p18)
      -- what is listed
      refine ⟨_, rfl, text, pg, rfl, hTx, hPl, hT18, epg, fun G19 pf ts19 s19 hpf hpfl hAl hll => ?_⟩
      have p19 := p18.trans (Same.pr s19 st)
      have u19 := u18.same s19
      have hM19 := s19 _ _ hM18
      have hT19 := tabs (p2.trans p19)
      rw [els] at hAl
      -- what is due
      refine ⟨_, rfl, _, rfl, Nat.le_of_lt (show 1 < sizeLine by decide), fun l20 hl20 => ?_⟩
      have s20 := Same.new (o := .lst [V.int (cb + dw)]) hl20
      have e20 : upd G19 l20 (.lst [V.int (cb + dw)]) l20 = some (.lst [V.int (cb + dw)]) := upd_same
      generalize upd G19 l20 (.lst [V.int (cb + dw)]) = G20 at s20 e20 ⊢
      have hM20 := s20 _ _ hM19
      refine ⟨_, rfl, Dn, rfl, ⟨_, SqL.of hM20⟩, fun Dz hDz => ?_⟩
      refine lc_list (K := K) (a := Dn) (xs := il ms) (fun j H' => Same G20 H' ∧ H' Dz = some (.lst (il ((ms.take j).map fun n => n % 256)))) ⟨Same.new hDz, upd_same⟩ (fun i H' _ ⟨z, _⟩ => SqL.of (z _ _ hM20)) ?_ ?_
      · rintro j x H5 hx ⟨s5, h5⟩
        obtain ⟨hj, rfl⟩ := ints_get hx
        refine ⟨rfl, yes_of (iteT ⟨_, rfl, _, _, rfl, rfl, (by show (0 : Int) < 256; decide), _, h5, ?_, s5.putNew hDz, ?_⟩)⟩
        · rw [List.length_map, List.length_map, List.length_take]
          exact Nat.lt_of_le_of_lt (show min j ms.length ≤ 17 by omega) (by decide)
        · rw [upd_same, take_snocI hj, List.map_append]
          show _ = some (HO.lst (il ((ms.take j).map (fun n => n % 256) ++ [ms.getD j 0 % 256])))
          rw [il_app]
      rintro G21 ⟨s21, hZ21⟩
      rw [show (ms.take (il ms).length) = ms by rw [List.length_map]; exact List.take_length] at hZ21
      refine ⟨_, _, _, _, rfl, rfl, s21 _ _ e20, hZ21, ?_, fun l22 hl22 => ?_⟩
      · rw [List.length_map, List.length_map]
        exact Nat.le_trans (show 1 + ms.length ≤ 17 by omega) (by decide)
      rw [show [V.int (cb + dw)] ++ il (ms.map fun n => n % 256) = il ((cb + dw) :: ms.map fun n => n % 256) from rfl]
      generalize hdue : (cb + dw) :: ms.map (fun n => n % 256) = due at hAl ewr ⊢
      refine ⟨l22, _, rfl, .inl ⟨SqL.of upd_same, fun l23 hl23 => ?_⟩⟩
      have s23 := ((s20.trans s21).add (o := .lst (il due)) hl22).add (o := .tup (il due)) hl23
      have e23 : upd (upd G21 l22 (.lst (il due))) l23 (.tup (il due)) l23 = some (.tup (il due)) := upd_same
      generalize upd (upd G21 l22 (.lst (il due))) l23 (.tup (il due)) = G23 at s23 e23 ⊢
      refine ⟨(by show 3 ≤ sizeLine; decide), fun l24 hl24 => ?_⟩
      have s24 := s23.add (o := .tup [V.int 2, V.int (lead : Int), V.ref l23]) hl24
      have e24 : upd G23 l24 (.tup [V.int 2, V.int (lead : Int), V.ref l23]) l24 = some (.tup [V.int 2, V.int (lead : Int), V.ref l23]) := upd_same
      have e24b := Same.new (o := .tup [V.int 2, V.int (lead : Int), V.ref l23]) hl24 _ _ e23
      generalize upd G23 l24 (.tup [V.int 2, V.int (lead : Int), V.ref l23]) = G24 at s24 e24 e24b ⊢
      have p24 := p19.trans (Same.pr s24 st)
      have u24 := u19.same s24
      have hpf24 := s24 _ _ hpfl
      have hAl24 : Al (LstAt G24) ts19 _ := hAl.mono fun y e z => LstAt.same z fun q ys e => s24 _ _ e
      have hT24 := tabs (p2.trans p24)
      clear s20 s21 s23 e20 hZ21 e23 hl22 hl23 hl24 hDz hM20 hM19 hM18 hpfl hAl hl20 s24 hpf hDs hDx hDy hl5 hl9 p19 u19
      -- what is found
      refine ⟨_, rfl, _, rfl, _, _, rfl, rfl, .inr ⟨_, rfl, _, rfl, pf, _, rfl, SqL.of hpf24, fun l25 hl25 => ?_⟩⟩
      refine ⟨_, rfl, Nat.le_of_lt (show 1 < sizeLine by decide), fun l26 hl26 => ?_⟩
      have fd := found_due (lead := lead) (ws := due) rfl
      refine ⟨.list [d3 (2, (lead : Int), due)], .list [d3 (2, (lead : Int), due)], .lst ((SqL.of (Same.new hl26 _ _ upd_same))) (dp_eq (cut_found (lead := lead) _ _ (decide_eq_decide.mpr (by omega))) ?_), .lst (SqL.of upd_same) ?_, shaped_one3 _, shaped_one3 _, ?_⟩
      · rw [← List.map_drop]
        have q := (hAl24.drop (if 0 < lead then 1 else 0))
        rw [fd] at q
        exact dp_lst3 (q.mono fun y e z => LstAt.same (LstAt.same z fun q ys e => Same.new hl25 _ _ e) fun q ys e => Same.new hl26 _ _ e)
      · exact .cons (.tup (SqT.of (Same.new hl26 _ _ (Same.new hl25 _ _ e24))) (.cons (.int _) (.cons (.int _) (.cons (.tup (SqT.of (Same.new hl26 _ _ (Same.new hl25 _ _ e24b))) (dp_all _)) .nil)))) .nil
      rw [eqv_self (shaped_one3 _)]
      refine ⟨_, rfl, ?_⟩
      refine iteF ?_
      have s26 := (Same.new (o := .lst (cutV (ts19.map V.ref) (some (if decide ((lead : Int) > 0) = true then 1 else 0)) none)) hl25).add (o := .lst [V.ref l24]) hl26
      generalize upd (upd G24 l25 (.lst (cutV (ts19.map V.ref) (some (if decide ((lead : Int) > 0) = true then 1 else 0)) none))) l26 (.lst [V.ref l24]) = G26 at s26 ⊢
      have hT26 : Tabs K G26 := fun x hx => s26 _ _ (hT24 x hx)
      have e24' := s26 _ _ e24
      have e24b' := s26 _ _ e24b
      have p26 := p24.trans (Same.pr s26 st)
      have u26 := u24.same s26
      clear hl25 hl26 e24 e24b hpf24 hAl24 s26 p24 u24 hT24
      -- what is written
      refine ⟨_, rfl, text, pg, rfl, hTx, hPl, hT26, epg, fun G27 pw s27 hpw hpwl hwl hstop => ⟨_, rfl, _, rfl, pw, _, rfl, SqL.of hpwl, fun l28 hl28 => ?_⟩⟩
      refine ⟨_, rfl, l24, _, _, _, rfl, rfl, SqT.of (Same.new hl28 _ _ (s27 _ _ e24')), atI_nat (j := 2) rfl, ?_⟩
      refine ⟨l23, _, rfl, .inr (SqT.of (Same.new hl28 _ _ (s27 _ _ e24b'))), fun l29 hl29 => ?_⟩
      refine ⟨.list (dI due), .list (dI due), .lst (SqL.of (Same.new hl29 _ _ upd_same)) (dp_eq ?_ (dp_all due)), .lst (SqL.of upd_same) (dp_all due), shaped_ints _, shaped_ints _, ?_⟩
      · rw [ewr, cutV_drop, ← List.map_drop, written_due]
      rw [eqv_ints]
      refine ⟨_, rfl, iteF ?_⟩
      have s29 := ((s27.add (o := .lst (cutV (il (writtenP pg)) (some (lead : Int)) none)) hl28).add (o := .lst (il due)) hl29)
      generalize upd (upd G27 l28 (.lst (cutV (il (writtenP pg)) (some (lead : Int)) none))) l29 (.lst (il due)) = G29 at s29 ⊢
      have hT29 : Tabs K G29 := fun x hx => s29 _ _ (hT26 x hx)
      have p29 := p26.trans (Same.pr s29 st)
      have u29 := u26.same s29
      clear s27 hpw hpwl hwl hstop hl28 hl29 s29
      -- what is come to
      refine ⟨_, rfl, _, rfl, (by show 2 ≤ sizeLine; decide), fun l30 hl30 => ?_⟩
      have s30 := Same.new (o := .tup [V.int (lead : Int), V.str kd.str]) hl30
      have e30 : upd G29 l30 (.tup [V.int (lead : Int), V.str kd.str]) l30 = some (.tup [V.int (lead : Int), V.str kd.str]) := upd_same
      generalize upd G29 l30 (.tup [V.int (lead : Int), V.str kd.str]) = G30 at s30 e30 ⊢
      refine ⟨_, rfl, text, pg, rfl, hTx, hPl, fun x hx => s30 _ _ (hT29 x hx), epg, fun G31 pw s31 hpw hpwl hwl hstop => ⟨_, rfl, Nat.le_of_lt (show 1 < sizeLine by decide), fun l32 hl32 => ?_⟩⟩
      have s32 := Same.new (o := .lst [V.int (lead : Int)]) hl32
      have ff := first_facts hc (bs := bs) lb hb4
      rw [show firstW ((kd, cb, cm, cr) : Code).1.str (bs.map fun b : Nat => (b : Int)) = cb + dw from hdw] at ff
      obtain ⟨f0, f1, _⟩ := ff
      obtain ⟨r, er, ek⟩ := row04 hc (lead := lead) (bs := bs) (ns := ms.map fun n => n % 256) lb hb4 (by rw [List.length_map]; exact lm)
      rw [show firstW ((kd, cb, cm, cr) : Code).1.str (bs.map fun b : Nat => (b : Int)) = cb + dw from hdw, hdue, ← ewr] at er
      have hby : Bytes (writtenP pg) := fun x hx => by
        rw [ewr] at hx
        rcases List.mem_append.mp hx with z | z
        · rw [(List.mem_replicate.mp z).2]
          exact ⟨by decide, by decide⟩
        · rw [← hdue] at z
          rcases List.mem_cons.mp z with y | y
          · rw [y]
            constructor <;> omega
          · obtain ⟨n, _, rfl⟩ := List.mem_map.mp y
            constructor <;> omega
      have hT32 : Tabs K (upd G31 l32 (.lst [V.int (lead : Int)])) := fun x hx => s32 _ _ (s31 _ _ (s30 _ _ (hT29 x hx)))
      refine ⟨writtenP pg, [(lead : Int)], ⟨hT32 "come" (by decide), pw, l32, rfl, s32 _ _ hpwl, upd_same, by omega, hby, by show 1 ≤ 16; decide, fun x hx => by rw [List.mem_singleton.mp hx]; omega⟩, fun G33 pc tc s33 hpc hpcl hpairs => ?_⟩
      refine ⟨dE ((lead : Int), kd), (comeL (writtenP pg) [(lead : Int)]).map dE, .tup (SqT.of (s33 _ _ (s32 _ _ (s31 _ _ e30)))) (.cons (.int _) (.cons (.str _) .nil)), .lst (SqL.of hpcl) (dp_come hpairs), shaped_dE _, shaped_come _, ?_⟩
      rw [any_come (come_first er ek)]
      refine ⟨_, rfl, iteF ?_⟩
      have s34 := s30.trans (s31.trans (s32.trans s33))
      exact ⟨_, _, _, _, _, _, _, _, _, _, _, _, _, _, _, _, _, _, _, rfl, p0.trans (p1.trans ((Same.pr s2 st).trans (p29.trans (Same.pr s34 st)))), u29.same s34⟩
    · rintro σ G0 ⟨x2, x3, x4, x5, x6, x7, x8, x9, x10, x11, x12, x13, x14, x15, x16, x17, x18, x19, x20, rfl, p0, u0⟩
      have pp0 := (Same.pr s1 st).trans p0
      refine ⟨_, rfl, st, a, _, ns, rfl, by decide, by decide, u0, hSc.pr pp0, fun v2 G2 a2 b2 u2 o2 => ?_⟩
      have p2 := pp0.trans o2.pr
      refine ⟨_, _, rfl, rfl, _, rfl, by omega, by omega, fun Dn hDn => ?_⟩
      have nn : Dn ≠ st := (u2.ne hDn).symm
      refine lc_range (n := (1 + v2).toNat) (fun j H' => ∃ ms : List Int, H' Dn = some (.lst (il ms)) ∧ ms.length = j ∧ (∀ n ∈ ms, -128 ≤ n ∧ n ≤ 255) ∧ Pr st G2 H' ∧ St3 H' st a) ⟨[], upd_same, rfl, fun b hb => (by cases hb), (Pr.refl st G2).add hDn, u2.put nn.symm⟩ ?_ ?_
      · rintro j H4 hj ⟨ms, hA, la, ha, p4, t4⟩
        refine ⟨rfl, yes_of ?_⟩
        refine iteT ?_
        refine ⟨_, rfl, st, a, _, ns, rfl, by decide, by decide, t4, hSc.pr (p2.trans p4), fun v5 H5 a5 b5 t5 o5 => ?_⟩
        refine ⟨_, _, rfl, rfl, ?_⟩
        refine ⟨_, (o5 Dn nn).trans hA, ?_, ms ++ [v5 - 128], ?_, by simp [la], fun b hb => ?_, (p4.trans o5.pr).put hDn, t5.put nn.symm⟩
        · rw [List.length_map, la]
          exact Nat.lt_of_lt_of_le hj (Nat.le_trans (show (1 + v2).toNat ≤ 17 by omega) (by decide))
        · rw [upd_same, il_app]
        · rcases List.mem_append.mp hb with z | z
          · exact ha b z
          · rw [List.mem_singleton.mp z]
            omega
      rintro G3 ⟨ms, hM, lm, hms, p3, u3⟩
      have p3' := p2.trans p3
      have lm1 : 1 ≤ ms.length ∧ ms.length ≤ 8 := by omega
      refine ⟨(rfl : ("str" : String) = "str"), _, rfl, Dn, rfl, ⟨_, SqL.of hM⟩, fun Dy hDy => ?_⟩
      have nDy : Dy ≠ st := (u3.ne hDy).symm
      refine lc_list (K := K) (a := Dn) (xs := il ms) (fun j H' => ∃ xs : List Nf, H' Dy = some (.lst (ss (xs.map nfL))) ∧ xs.length = j ∧ xs.map (·.1) = ms.take j ∧ (∀ x ∈ xs, NfOk x) ∧ Pr st G3 H' ∧ St3 H' st a) ⟨[], upd_same, rfl, rfl, fun b hb => (by cases hb), (Pr.refl st G3).add hDy, u3.put nDy.symm⟩ (fun i H' _ ⟨_, _, _, _, _, z, _⟩ => SqL.of (z _ _ hM nn)) ?_ ?_
      · rintro j x H5 hx ⟨xs, h5, lx, ex, hxo, q5, t5⟩
        obtain ⟨hj, rfl⟩ := ints_get hx
        have hb := hms _ (getD_mem hj)
        refine ⟨rfl, yes_of (iteT ⟨_, rfl, _, rfl, Nat.zero_le _, fun e he => ?_⟩)⟩
        have ne : e ≠ st := (t5.ne he).symm
        have nDe : Dy ≠ e := ne_of_none h5 he
        refine ⟨st, a, e, _, ns, rfl, by omega, by omega, t5.put ne.symm, hSc.pr ((p3'.trans q5).add he), fun m f H7 hm t7 o7 => ?_⟩
        have h7 := o7 _ _ ((upd_ne nDe).trans h5) nDy
        refine ⟨_, h7, ?_, xs ++ [(ms.getD j 0, m, f)], ?_, by simp [lx], ?_, fun y hy => ?_, ((q5.add he).trans o7).put hDy, t7.put nDy.symm⟩
        · show (((xs.map nfL).map S).map V.str).length < sizeLine
          rw [List.length_map, List.length_map, List.length_map, lx]
          exact Nat.lt_of_le_of_lt (show j ≤ 17 by omega) (by decide)
        · rw [upd_same, List.map_append, ss_app]
          rfl
        · rw [List.map_append, take_snocI hj, ex]
          rfl
        · rcases List.mem_append.mp hy with z | z
          · exact hxo y z
          · rw [List.mem_singleton.mp z]
            exact ⟨by show -400 ≤ ms.getD j 0; omega, by show ms.getD j 0 ≤ 400; omega, hm⟩
      rintro G4 ⟨xs, hY, lx, ex, hxo, p4, u4⟩
      rw [show ms.take (il ms).length = ms by rw [List.length_map]; exact List.take_length] at ex
      have lx2 : xs.length = ms.length := by rw [lx, List.length_map]
      have hM4 := p4 _ _ hM nn
      have lsum := sum_nf hxo
      have sl : (1000 : Nat) ≤ sizeLine := by decide
      have cat : ∀ x y : Str, (x ++ y).length = x.length + y.length := fun x y => by
        rw [← S_tl x, ← S_tl y, S_cat, S_len, S_len, S_len, List.length_append]
      have e1 : (" " : Str).length = 1 := by decide
      have e2 : ("word " : Str).length = 5 := by decide
      have e3 : ("\nis five 5" : Str).length = 10 := by decide
      have ljn : (Txt.join " " ((xs.map nfL).map S)).length ≤ 100 := by
        rw [sp_S, join_S, S_len]
        have q := joinL_len (k := 1) (M := 8) (W := xs.map nfL) fun u hu => by
          obtain ⟨x, hx, rfl⟩ := List.mem_map.mp hu
          exact (nf_word (hxo x hx)).2
        rw [List.length_map] at q
        show (TL.joinL (List.replicate 1 32) (xs.map nfL)).length ≤ 100
        omega
      refine ⟨_, Dy, (xs.map nfL).map S, rfl, rfl, .inl (SqL.of hY), ?_, _, _, rfl, rfl, by omega, _, _, rfl, rfl, by rw [cat]; omega, ?_⟩
      · rw [List.length_map, List.length_map, e1]
        omega
      rw [word_text]
      have p4' := p3'.trans p4
      have hxf : ∀ x ∈ xs, -128 ≤ x.1 ∧ x.1 ≤ 255 := fun x hx => hms _ (by rw [← ex]; exact List.mem_map.mpr ⟨x, hx, rfl⟩)
      obtain ⟨hTx, hPl, pg, epg, ewr⟩ := word04 (xs := xs) (by omega) (by omega) hxo hxf
      rw [show (xs.map fun x : Nf => x.1 % 256) = ms.map fun n => n % 256 by rw [← ex, List.map_map]; rfl] at ewr
      refine ⟨_, rfl, _, pg, rfl, hTx, hPl, tabs p4', epg, fun G5 pw s5 hpw hpwl hwl hstop => ?_⟩
      rw [ewr] at hpwl
      have hM5 := s5 _ _ hM4
      refine ⟨_, rfl, Dn, rfl, ⟨_, SqL.of hM5⟩, fun Dz hDz => ?_⟩
      refine lc_list (K := K) (a := Dn) (xs := il ms) (fun j H' => Same G5 H' ∧ H' Dz = some (.lst (il ((ms.take j).map fun n => n % 256)))) ⟨Same.new hDz, upd_same⟩ (fun i H' _ ⟨z, _⟩ => SqL.of (z _ _ hM5)) ?_ ?_
      · rintro j x H5 hx ⟨s5, h5⟩
        obtain ⟨hj, rfl⟩ := ints_get hx
        refine ⟨rfl, yes_of (iteT ⟨_, rfl, _, _, rfl, rfl, (by show (0 : Int) < 256; decide), _, h5, ?_, s5.putNew hDz, ?_⟩)⟩
        · rw [List.length_map, List.length_map, List.length_take]
          exact Nat.lt_of_le_of_lt (show min j ms.length ≤ 17 by omega) (by decide)
        · rw [upd_same, take_snocI hj, List.map_append]
          show _ = some (HO.lst (il ((ms.take j).map (fun n => n % 256) ++ [ms.getD j 0 % 256])))
          rw [il_app]
      rintro G6 ⟨s6, hZ6⟩
      rw [show (ms.take (il ms).length) = ms by rw [List.length_map]; exact List.take_length] at hZ6
      exact ⟨.ref pw, .ref Dz, rfl, eqn_ints (s6 _ _ hpwl) hZ6 (by rw [List.length_map]; omega), fun G7 s7 => k _ (tabs (p4'.trans (Same.pr (s5.trans (s6.trans s7)) st)))⟩
end
end Rs
/-! the head's equation in parts, each with a run of the top of its own: less memory at once -/
namespace Rg
open PySem PySem.Spec PyProof.Rows L2 PySem.W
def obsL (as : List Addr) (fa : List He.Fa) (fn : List He.DefD) (ts : List He.Tab) (tf : List He.Defn) (ex : PySem.W.Frag → Bool) (g : Addr → Option Obj) : He.AlX := (He.obsT fa fn ts (He.frT g as), ex (He.frT g as) && He.tabsB g tf (He.frT g as))
theorem saysL_of {as : List Addr} {fa : List He.Fa} {fn : List He.DefD} {ts : List He.Tab} {tf : List He.Defn} {ex : PySem.W.Frag → Bool} {w : World} {h : Heap} (e : obsL as fa fn ts tf ex h.get? = He.valX fn ts w) : He.SaysX fa fn ts tf ex w h (He.frT h.get? as) := by
  have e1 : He.obsT fa fn ts (He.frT h.get? as) = He.valT fn ts w := congrArg (fun z : He.AlX => z.1) e
  have e2 : (ex (He.frT h.get? as) && He.tabsB h.get? tf (He.frT h.get? as)) = true := congrArg (fun z : He.AlX => z.2) e
  obtain ⟨h1, h2⟩ := He.ba e2
  have key : ∀ p ∈ tf, PySem.W.codeHdIn (He.frT h.get? as) (He.cT (He.frT h.get? as) p).1 (He.cT (He.frT h.get? as) p).2 = true ∧ ∃ o, h.get? (He.cT (He.frT h.get? as) p).2 = some o ∧ He.emptyTab o = true := fun p hp => by
    obtain ⟨h3, h4⟩ := He.ba (List.all_eq_true.mp h2 p hp)
    refine ⟨h3, ?_⟩
    cases q : h.get? (He.cT (He.frT h.get? as) p).2 with
    | none =>
      rw [q] at h4
      cases h4
    | some o =>
      rw [q] at h4
      exact ⟨o, rfl, h4⟩
  exact ⟨e1, h1, fun p hp => (key p hp).1, fun p hp => by
    obtain ⟨_, o, q, z⟩ := key p hp
    exact He.frT_none q z, fun p hp => by
    obtain ⟨_, o, q, z⟩ := key p hp
    rw [q, He.emptyTab_eq z]⟩
/-- as the library's hookX, over a written list of addresses -/
def hookL (as : List Addr) (fa : List He.Fa) (fn : List He.DefD) (ts : List He.Tab) (tf : List He.Defn) (ex : PySem.W.Frag → Bool) : PySem.W.Hook where
  α := He.AlX
  obs := fun s => obsL as fa fn ts tf ex s.heap.get?
  val := fun w => He.valX fn ts w
  says := fun w h => ∃ K : PySem.W.Frag, K.In h ∧ He.SaysX fa fn ts tf ex w h K
  of := fun _ _ e => ⟨_, He.frT_in, saysL_of e⟩
  keeps := fun _ _ _ ⟨K, hK, c⟩ k => ⟨K, PySem.W.Frag.In.keeps hK k, ⟨c.t, c.more, c.hd, c.out, fun p hp => k _ _ (c.empty p hp)⟩⟩
theorem obsL_eq {as : List Addr} {fa : List He.Fa} {fn : List He.DefD} {ts : List He.Tab} {tf : List He.Defn} {ex : PySem.W.Frag → Bool} {g : Addr → Option Obj} {s : Shared} (h : ∀ a, g a = s.heap.get? a) : obsL as fa fn ts tf ex g = (hookL as fa fn ts tf ex).obs s := by
  have e : g = s.heap.get? := funext h
  rw [e] <;> rfl
def obO (as : List Addr) (fa : List He.Fa) (fn : List He.DefD) (ts : List He.Tab) (tf : List He.Defn) (ex : PySem.W.Frag → Bool) (s : PySem.W.SharedT) : He.AlX := obsL as fa fn ts tf ex (HandSHeadRun.getT s)
noncomputable def obA (r : OpenRow) (q : Program) (loose : List PySem.Str) (w : World) (s : PySem.W.SharedT) := (HandSHeadRun.looksF r.prog (boot_heap w.params) s.abs, HandSHeadRun.seenQ q loose (importedModules r.prog.main.body) (fun s => xlAt q [] s && recOk r.toRowW.records s) s.abs)
noncomputable def endR (r : OpenRow) (M : Nat) (w : World) (os : OsState) : Option PySem.W.SharedT := HandSHeadRun.endF (HandSHeadRun.stepQ (HandSHeadRun.denQ HandSHeadRun.tabQ) r.prog w) M r.prog w os
theorem runEq_of {r : OpenRow} {q : Program} {as : List Addr} {fa : List He.Fa} {fn : List He.DefD} {ts : List He.Tab} {tf : List He.Defn} {ex : PySem.W.Frag → Bool} {M : Nat} {loose : List PySem.Str} {w : World}
    (hA : ∀ os, (endR r M w os).map (obA r q loose w) = some (true, openGood q loose)) (hO : ∀ os, (endR r M w os).map (obO as fa fn ts tf ex) = some (He.valX fn ts w)) :
    HandSHeadRun.RunEq r q (hookL as fa fn ts tf ex) (fun s => obsL as fa fn ts tf ex (HandSHeadRun.getT s)) M loose w := by
  intro os
  have a := hA os
  have t := hO os
  show (endR r M w os).map _ = _
  cases e : endR r M w os with
  | none =>
    rw [e] at a
    cases a
  | some s =>
    rw [e] at a t
    have a := Option.some.inj a
    have t := Option.some.inj t
    refine congrArg some ?_
    have a1 : HandSHeadRun.looksF r.prog (boot_heap w.params) s.abs = true := congrArg Prod.fst a
    have a2 : HandSHeadRun.seenQ q loose (importedModules r.prog.main.body) (fun s => xlAt q [] s && recOk r.toRowW.records s) s.abs = openGood q loose := congrArg Prod.snd a
    have e1 : obsL as fa fn ts tf ex (HandSHeadRun.getT s) = He.valX fn ts w := t
    show (HandSHeadRun.looksF r.prog (boot_heap w.params) s.abs, HandSHeadRun.seenQ q loose (importedModules r.prog.main.body) (fun s => xlAt q [] s && recOk r.toRowW.records s) s.abs, obsL as fa fn ts tf ex (HandSHeadRun.getT s)) = (true, openGood q loose, He.valX fn ts w)
    rw [a1, a2, e1]
end Rg
namespace Rs
open PySem PySem.Spec PyProof.Rows L2 C8
def dD (x : Str) (st : Stmt) : He.DefD := ⟨(x, none), x, x, defArgs st, defBody st, defScope st, [], []⟩
def dWalk : He.DefD := ⟨("Walk", some "__init__"), "__init__", "Walk.__init__", defArgs sD_Walkinit, defBody sD_Walkinit, defScope sD_Walkinit, [], []⟩
def dFrame : He.DefD := ⟨("Frame", some "__init__"), "__init__", "Frame.__init__", defArgs sD_Frameinit, defBody sD_Frameinit, defScope sD_Frameinit, [], []⟩
def dRow : He.DefD := ⟨("Row", some "__init__"), "__init__", "Row.__init__", defArgs sD_Rowinit, defBody sD_Rowinit, defScope sD_Rowinit, [], []⟩
def dReader : He.DefD := ⟨("Reader", some "__init__"), "__init__", "Reader.__init__", defArgs sD_Readerinit, defBody sD_Readerinit, defScope sD_Readerinit, [], []⟩
def dPage : He.DefD := ⟨("Page", some "__init__"), "__init__", "Page.__init__", defArgs sD_Pageinit, defBody sD_Pageinit, defScope sD_Pageinit, [], []⟩
def fn0 : List He.DefD := [dD "first_word" sD_first_word, dD "short_take" sD_short_take, dD "row_size" sD_row_size, dD "signed" sD_signed, dD "op_of" sD_op_of, dD "boxes_of" sD_boxes_of, dD "row_at" sD_row_at, dD "is_letters" sD_is_letters, dD "is_name" sD_is_name, dD "is_own_name" sD_is_own_name, dD "is_figures" sD_is_figures, dD "name_of" sD_name_of, dD "is_box" sD_is_box, dD "box_of" sD_box_of, dD "split_sum" sD_split_sum, dD "part_of" sD_part_of, dD "sum_of" sD_sum_of, dD "worth_of" sD_worth_of, dD "check_given" sD_check_given, dD "names_in" sD_names_in, dD "is_known" sD_is_known, dD "is_early" sD_is_early, dD "check_known" sD_check_known, dD "settled_first" sD_settled_first, dD "split_row" sD_split_row, dD "begin_macro" sD_begin_macro, dD "end_macro" sD_end_macro, dD "called_rows" sD_called_rows, dD "fill_shaped" sD_fill_shaped, dD "fill_row" sD_fill_row]
def fn1 : List He.DefD := [dD "put_row" sD_put_row, dD "put_in" sD_put_in, dD "read_row" sD_read_row, dD "read" sD_read, dD "size_of" sD_size_of, dD "set_places" sD_set_places, dD "worths_at" sD_worths_at, dD "is_growing" sD_is_growing, dD "settle" sD_settle, dD "check_room" sD_check_room, dD "fitted" sD_fitted, dD "words_of" sD_words_of, dD "page_of" sD_page_of, dD "written" sD_written, dD "listed" sD_listed, dD "goal_of" sD_goal_of, dD "leads_of" sD_leads_of, dD "come" sD_come, dD "walked" sD_walked, dD "is_whole" sD_is_whole, dD "check_words" sD_check_words, dD "check_begins" sD_check_begins, dD "checked_walk" sD_checked_walk, dD "come_to" sD_come_to, dD "_law_start" sD__law_start, dD "_law_drawn" sD__law_drawn, dD "_law_same" sD__law_same, dD "_law_all_codes" sD__law_all_codes, dD "_law_as_text" sD__law_as_text, dD "law" sD_law]
def fn2 : List He.DefD := [dWalk, dFrame, dRow, dReader, dPage]
def fn : List He.DefD := fn0 ++ fn1 ++ fn2
def fa0 : List He.Fa := [.glo "first_word", .glo "short_take", .glo "row_size", .glo "signed", .glo "op_of", .glo "boxes_of", .glo "row_at", .glo "is_letters", .glo "is_name", .glo "is_own_name", .glo "is_figures", .glo "name_of", .glo "is_box", .glo "box_of", .glo "split_sum", .glo "part_of", .glo "sum_of", .glo "worth_of", .glo "check_given", .glo "names_in", .glo "is_known", .glo "is_early", .glo "check_known", .glo "settled_first", .glo "split_row", .glo "begin_macro", .glo "end_macro", .glo "called_rows", .glo "fill_shaped", .glo "fill_row"]
def fa1 : List He.Fa := [.glo "put_row", .glo "put_in", .glo "read_row", .glo "read", .glo "size_of", .glo "set_places", .glo "worths_at", .glo "is_growing", .glo "settle", .glo "check_room", .glo "fitted", .glo "words_of", .glo "page_of", .glo "written", .glo "listed", .glo "goal_of", .glo "leads_of", .glo "come", .glo "walked", .glo "is_whole", .glo "check_words", .glo "check_begins", .glo "checked_walk", .glo "come_to", .glo "_law_start", .glo "_law_drawn", .glo "_law_same", .glo "_law_all_codes", .glo "_law_as_text", .glo "law"]
def fa2 : List He.Fa := [.glo "OPS", .glo "SPANS", .glo "KEPT", .glo "BOXES", .glo "SHAPES", .glo "WORDLESS", .glo "BELOW_NOUGHT", .glo "GOING", .glo "NOT_BEHIND", .glo "Walk", .glo "Frame", .glo "Row", .glo "Reader", .glo "Page", .free "all", .free "any", .free "bool", .free "dict", .free "enumerate", .free "int", .free "isinstance", .free "len", .free "list", .free "min", .free "range", .free "set", .free "sorted", .free "str", .free "tuple", .free "zip"]
def fa3 : List He.Fa := [.int "TAKE_FIRST" 144, .int "TAKE_SPAN" 32, .int "TAKE_NUMBERS" 8, .int "NAME_MOST" 8, .int "FIGURES_MOST" 4, .int "PARTS_MOST" 24, .int "ROWS_MOST" 400, .int "MACROS_MOST" 60, .int "PARAMS_MOST" 4, .int "WORD_SUMS_MOST" 8, .int "PLACES" 256, .int "SHORT_MOST" 7, .int "BEGIN" (-1), .int "WORDS_MOST" 256, .int "WORD_MOST" 255, .int "BEGINS_MOST" 16, .cls "Walk", .noat "Walk" "rows", .noat "Walk" "homes", .noat "Walk" "apart", .mkr "Walk", .cls "Frame", .noat "Frame" "row", .noat "Frame" "reach", .noat "Frame" "own", .noat "Frame" "boxes", .noat "Frame" "sums", .mkr "Frame", .cls "Row", .noat "Row" "row"]
def fa4 : List He.Fa := [.noat "Row" "label", .noat "Row" "op", .noat "Row" "boxes", .noat "Row" "sums", .noat "Row" "gives", .noat "Row" "amount", .noat "Row" "place", .noat "Row" "long", .noat "Row" "words", .mkr "Row", .cls "Reader", .noat "Reader" "macros", .noat "Reader" "begun", .noat "Reader" "head", .noat "Reader" "calls", .noat "Reader" "rows", .mkr "Reader", .cls "Page", .noat "Page" "rows", .noat "Page" "worths", .noat "Page" "end", .mkr "Page"]
def fa : List He.Fa := fa0 ++ fa1 ++ fa2 ++ fa3 ++ fa4
def loose0 : List PySem.Str := ["ScribeError", "BadRow", "BadWords", "BadBegins", "OPS", "SPANS", "TAKE_FIRST", "TAKE_SPAN", "TAKE_NUMBERS", "first_word", "short_take", "row_size", "signed", "op_of", "boxes_of", "row_at", "KEPT", "NAME_MOST", "FIGURES_MOST", "is_letters", "is_name", "is_own_name", "is_figures", "BOXES", "PARTS_MOST", "Frame", "name_of", "is_box", "box_of", "split_sum"]
def loose1 : List PySem.Str := ["part_of", "sum_of", "worth_of", "check_given", "names_in", "is_known", "is_early", "check_known", "settled_first", "ROWS_MOST", "MACROS_MOST", "PARAMS_MOST", "WORD_SUMS_MOST", "SHAPES", "Row", "Macro", "Reader", "split_row", "is_head", "begin_macro", "end_macro", "hand", "called_rows", "fill_shaped", "fill_row", "put_row", "put_in", "read_row", "read", "PLACES"]
def loose2 : List PySem.Str := ["WORDLESS", "BELOW_NOUGHT", "SHORT_MOST", "Page", "size_of", "set_places", "worths_at", "is_growing", "settle", "check_room", "fitted", "words_of", "page_of", "written", "listed", "BEGIN", "GOING", "NOT_BEHIND", "Walk", "goal_of", "leads_of", "come", "walked", "WORDS_MOST", "WORD_MOST", "BEGINS_MOST", "is_whole", "check_words", "check_begins", "checked_walk"]
def loose3 : List PySem.Str := ["come_to", "_law_start", "_law_drawn", "_law_same", "_law_all_codes", "_law_forms", "_law_as_text"]
def loose : List PySem.Str := loose0 ++ loose1 ++ loose2 ++ loose3
def kinds : List Kd := [.stop, .back, .say, .take, .takeL, .move, .add, .less, .load, .store, .jump, .call, .skip, .zero, .same, .copy]
def ts : List He.Tab := [(fun K => He.ga K "OPS", codes.map fun c => c.1.str), (fun K => He.ga K "BOXES", ["r0", "r1", "r2", "r3"]), (fun K => He.ga K "SHAPES", ["take", "at", "room"])]
def tupA (K : PySem.W.Frag) (a : Addr) (vs : List V) : Bool := match K.lookup a with
  | some ⟨.type c, _, .seq its _, _⟩ => decide (c = "tuple") && (decide (its.size ≤ sizeLine) && He.relAll vs its.toList)
  | _ => false
def opB (K : PySem.W.Frag) (c : Code) : Bool := match PySem.W.nsIn K (He.ga K "OPS") c.1.str with
  | some (some (.ref a)) => tupA K a [.int c.2.1, .int c.2.2.1, .int c.2.2.2]
  | _ => false
def shB (K : PySem.W.Frag) (a : Addr) (e : Str × List Int) : Bool := match PySem.W.nsIn K a e.1 with
  | some (some (.ref b)) => tupA K b (e.2.map V.int)
  | _ => false
def ex (K : PySem.W.Frag) : Bool := (codes.all (opB K)) && (He.tupB K "SPANS" [.int 1, .int 4, .int 16] && (He.tupB K "KEPT" [.str "take", .str "at", .str "word", .str "room", .str "is", .str "macro", .str "end", .str "here"] && (He.tupB K "WORDLESS" [.str "", .str "is", .str "at"] && (He.tupB K "BELOW_NOUGHT" [.str "word", .str "take", .str "take!"] && (He.tupB K "GOING" [.str "jump", .str "call", .str "zero", .str "same"] && (He.tupB K "NOT_BEHIND" [.str "stop", .str "back", .str "jump", .str "skip"] && (He.valsB K (He.ga K "BOXES") [("r0", He.Dv.int 0), ("r1", He.Dv.int 1), ("r2", He.Dv.int 2), ("r3", He.Dv.int 3)] && (([("take", [1, 1]), ("at", [0, 1]), ("room", [0, 1])] : List (Str × List Int)).all (shB K (He.ga K "SHAPES"))))))))))
def tf : List He.Defn := [("is_letters", none), ("is_figures", none), ("is_known", none), ("is_early", none), ("settled_first", none), ("is_head", none), ("come", none)]
abbrev R : PySem.W.OpenRow := PySem.W.OpenLaw.row PySem.Challenge.rw_rowscribe_k04_rows_of_all_sorts
def as_ : List Addr := List.range 1200
def hk : PySem.W.Hook := Rg.hookL as_ fa fn ts tf ex
def ob (s : PySem.W.SharedT) : He.AlX := Rg.obsL as_ fa fn ts tf ex (HandSHeadRun.getT s)
theorem ob_eq (s : PySem.W.SharedT) : ob s = hk.obs s.abs := Rg.obsL_eq (HandSHeadRun.getT_eq s)
end Rs
namespace Rs
open PySem PySem.Spec PyProof.Rows L2 C8
theorem tupA_ok {K : PySem.W.Frag} {a : Addr} {vs : List V} (h : tupA K a vs = true) (H : Hp) : SqT K H a vs := by
  unfold tupA at h
  split at h
  · rename_i c od its n sl q
    obtain ⟨h1, h2⟩ := He.ba h
    obtain ⟨h3, h4⟩ := He.ba h2
    exact .inr ⟨_, its, n, q, congrArg Value.type (of_decide_eq_true h1), rfl, of_decide_eq_true h3, He.relAll_ok h4⟩
  · cases h
theorem opB_ok {K : PySem.W.Frag} {c : Code} (h : opB K c = true) : ∃ a, PySem.W.nsIn K (He.ga K "OPS") c.1.str = some (some (.ref a)) ∧ ∀ H, SqT K H a [.int c.2.1, .int c.2.2.1, .int c.2.2.2] := by
  unfold opB at h
  split at h
  · rename_i a q
    exact ⟨a, q, fun H => tupA_ok h H⟩
  · cases h
theorem shB_ok {K : PySem.W.Frag} {b : Addr} {e : Str × List Int} (h : shB K b e = true) : ∃ a, PySem.W.nsIn K b e.1 = some (some (.ref a)) ∧ ∀ H, SqT K H a (e.2.map V.int) := by
  unfold shB at h
  split at h
  · rename_i a q
    exact ⟨a, q, fun H => tupA_ok h H⟩
  · cases h
theorem tab_dic {w : World} {K : PySem.W.Frag} (c : He.SaysT fa fn ts w K) (i : Nat) {t : He.Tab} (h : ts[i]? = some t) : He.dicW K (t.1 K) = some (He.keysIn w.params t.2) := by
  have e : ts.map (fun t => He.dicW K (t.1 K)) = ts.map fun t => some (He.keysIn w.params t.2) := congrArg (fun z : He.AlT => z.2) c
  have e2 : (ts.map fun t => He.dicW K (t.1 K))[i]? = (ts.map fun t => some (He.keysIn w.params t.2))[i]? := by rw [e]
  rw [List.getElem?_map, List.getElem?_map, h] at e2
  exact Option.some.inj e2
theorem ktab_of {K : PySem.W.Frag} {w : World} {a : Addr} {ks : List Str} (h : He.dicW K a = some (He.keysIn w.params ks)) : KTab K w a ks := by
  obtain ⟨es, n, D⟩ := He.dicW_ok h
  have h2 : some (es.toList.map He.keyOf) = some (He.keysIn w.params ks) := by
    rw [← h]
    unfold He.dicW
    rw [D.at_]
    have e : (decide (("dict" : String) = "dict") && ((#[] : Array (Option Value)).isEmpty && !(a == sysModules))) = true := by rw [D.low]; decide
    show _ = (match decide (("dict" : String) = "dict") && ((#[] : Array (Option Value)).isEmpty && !(a == sysModules)) with | true => some (es.toList.map He.keyOf) | false => none)
    rw [e]
  have h3 := Option.some.inj h2
  have hl : es.toList.length = ks.length := by
    have := congrArg List.length h3
    simpa [He.keysIn] using this
  refine ⟨es, n, D.at_, D.lit, D.low, by simpa using hl, fun i k hk => ?_⟩
  have e1 : (es.toList.map He.keyOf)[i]? = (He.keysIn w.params ks)[i]? := by rw [h3]
  rw [List.getElem?_map] at e1
  unfold He.keysIn at e1
  rw [List.getElem?_map, hk] at e1
  cases q : es.toList[i]? with
  | none =>
    rw [q] at e1
    cases e1
  | some en =>
    rw [q] at e1
    have e2 : He.keyOf en = some (k, PyData.keyHash w.params k) := Option.some.inj e1
    unfold He.keyOf at e2
    split at e2
    · rename_i x t ex
      have e3 := (Prod.mk.inj (Option.some.inj e2)).1
      refine ⟨en, t, by simpa using q, ?_⟩
      rw [ex, e3]
    · cases e2
theorem kdct_of {K : PySem.W.Frag} {w : World} {a : Addr} {ks : List Str} {x : Str} {v : V} {u : Value} (T : KTab K w a ks) (h : PySem.W.nsIn K a x = some (some u)) (r : RelV v u) : KDct K w a x v := by
  obtain ⟨es, n, e1, e2, _⟩ := T.ex
  exact ⟨es, n, u, e1, e2, h, r⟩
theorem mem_kinds (k : Kd) : k ∈ kinds := by cases k <;> decide
section
variable {w : World} {K : PySem.W.Frag} {h : Heap} {mg : Str → Option Value}
theorem has_fa {f : He.Fa} (c : He.SaysT fa fn ts w K) (i : Nat) (e : fa[i]? = some f) : f.ok K = true := c.d.fact i e
theorem txt_of (X : K.In h) (G : h.Ns mainGlobals mg) (c : He.SaysT fa fn ts w K) (e : ex K = true) : Txt w K mg := by
  obtain ⟨e0, r0⟩ := He.ba e
  obtain ⟨e1, r1⟩ := He.ba r0
  obtain ⟨e2, r2⟩ := He.ba r1
  obtain ⟨e3, r3⟩ := He.ba r2
  obtain ⟨e4, r4⟩ := He.ba r3
  obtain ⟨e5, r5⟩ := He.ba r4
  obtain ⟨e6, r6⟩ := He.ba r5
  obtain ⟨e7, r7⟩ := He.ba r6
  have tb : KTab K w (He.ga K "OPS") (codes.map fun c => c.1.str) := ktab_of (tab_dic c 0 rfl)
  have tb_BOXES : KTab K w (He.ga K "BOXES") ["r0", "r1", "r2", "r3"] := ktab_of (tab_dic c 1 rfl)
  have tb_SHAPES : KTab K w (He.ga K "SHAPES") ["take", "at", "room"] := ktab_of (tab_dic c 2 rfl)
  exact {
    free_all := He.free_ok X G (has_fa c 74 rfl)
    free_any := He.free_ok X G (has_fa c 75 rfl)
    free_bool := He.free_ok X G (has_fa c 76 rfl)
    free_dict := He.free_ok X G (has_fa c 77 rfl)
    free_enumerate := He.free_ok X G (has_fa c 78 rfl)
    free_int := He.free_ok X G (has_fa c 79 rfl)
    free_isinstance := He.free_ok X G (has_fa c 80 rfl)
    free_len := He.free_ok X G (has_fa c 81 rfl)
    free_list := He.free_ok X G (has_fa c 82 rfl)
    free_min := He.free_ok X G (has_fa c 83 rfl)
    free_range := He.free_ok X G (has_fa c 84 rfl)
    free_set := He.free_ok X G (has_fa c 85 rfl)
    free_sorted := He.free_ok X G (has_fa c 86 rfl)
    free_str := He.free_ok X G (has_fa c 87 rfl)
    free_tuple := He.free_ok X G (has_fa c 88 rfl)
    free_zip := He.free_ok X G (has_fa c 89 rfl)
    g_TAKE_FIRST := He.int_ok X G (has_fa c 90 rfl)
    g_TAKE_SPAN := He.int_ok X G (has_fa c 91 rfl)
    g_TAKE_NUMBERS := He.int_ok X G (has_fa c 92 rfl)
    g_NAME_MOST := He.int_ok X G (has_fa c 93 rfl)
    g_FIGURES_MOST := He.int_ok X G (has_fa c 94 rfl)
    g_PARTS_MOST := He.int_ok X G (has_fa c 95 rfl)
    g_ROWS_MOST := He.int_ok X G (has_fa c 96 rfl)
    g_MACROS_MOST := He.int_ok X G (has_fa c 97 rfl)
    g_PARAMS_MOST := He.int_ok X G (has_fa c 98 rfl)
    g_WORD_SUMS_MOST := He.int_ok X G (has_fa c 99 rfl)
    g_PLACES := He.int_ok X G (has_fa c 100 rfl)
    g_SHORT_MOST := He.int_ok X G (has_fa c 101 rfl)
    g_BEGIN := He.int_ok X G (has_fa c 102 rfl)
    g_WORDS_MOST := He.int_ok X G (has_fa c 103 rfl)
    g_WORD_MOST := He.int_ok X G (has_fa c 104 rfl)
    g_BEGINS_MOST := He.int_ok X G (has_fa c 105 rfl)
    g_OPS := He.glo_ok X G (has_fa c 60 rfl)
    g_SPANS := He.glo_ok X G (has_fa c 61 rfl)
    g_KEPT := He.glo_ok X G (has_fa c 62 rfl)
    g_BOXES := He.glo_ok X G (has_fa c 63 rfl)
    g_SHAPES := He.glo_ok X G (has_fa c 64 rfl)
    g_WORDLESS := He.glo_ok X G (has_fa c 65 rfl)
    g_BELOW_NOUGHT := He.glo_ok X G (has_fa c 66 rfl)
    g_GOING := He.glo_ok X G (has_fa c 67 rfl)
    g_NOT_BEHIND := He.glo_ok X G (has_fa c 68 rfl)
    t_SPANS := fun H => He.tupB_ok e1 H
    t_KEPT := fun H => He.tupB_ok e2 H
    t_WORDLESS := fun H => He.tupB_ok e3 H
    t_BELOW_NOUGHT := fun H => He.tupB_ok e4 H
    t_GOING := fun H => He.tupB_ok e5 H
    t_NOT_BEHIND := fun H => He.tupB_ok e6 H
    tab := tb
    ops := fun d hd => by
      obtain ⟨a, q1, q2⟩ := opB_ok (List.all_eq_true.mp e0 d hd)
      exact ⟨a, kdct_of tb q1 rfl, q2⟩
    tab_BOXES := tb_BOXES
    v_BOXES := fun d hd => by
      obtain ⟨u, q1, q2⟩ := He.valsB_ok e7 (q := (d.1, He.Dv.int d.2)) (by simp at hd ⊢; rcases hd with rfl | rfl | rfl | rfl <;> simp)
      exact kdct_of tb_BOXES q1 q2
    tab_SHAPES := tb_SHAPES
    v_SHAPES := fun d hd => by
      obtain ⟨a, q1, q2⟩ := shB_ok (List.all_eq_true.mp r7 d hd)
      exact ⟨a, kdct_of tb_SHAPES q1 rfl, q2⟩
  }
theorem txtWalk_of (c : He.SaysT fa fn ts w K) : TxtW K (He.ga K "Walk") :=
  ⟨He.cls_ok (has_fa c 106 rfl), He.noat_ok (has_fa c 107 rfl), He.noat_ok (has_fa c 108 rfl), He.noat_ok (has_fa c 109 rfl)⟩
theorem txtFrame_of (c : He.SaysT fa fn ts w K) : TxtF K (He.ga K "Frame") :=
  ⟨He.cls_ok (has_fa c 111 rfl), He.noat_ok (has_fa c 112 rfl), He.noat_ok (has_fa c 113 rfl), He.noat_ok (has_fa c 114 rfl), He.noat_ok (has_fa c 115 rfl), He.noat_ok (has_fa c 116 rfl)⟩
theorem txtRow_of (c : He.SaysT fa fn ts w K) : TxtR K (He.ga K "Row") :=
  ⟨He.cls_ok (has_fa c 118 rfl), He.noat_ok (has_fa c 119 rfl), He.noat_ok (has_fa c 120 rfl), He.noat_ok (has_fa c 121 rfl), He.noat_ok (has_fa c 122 rfl), He.noat_ok (has_fa c 123 rfl), He.noat_ok (has_fa c 124 rfl), He.noat_ok (has_fa c 125 rfl), He.noat_ok (has_fa c 126 rfl), He.noat_ok (has_fa c 127 rfl), He.noat_ok (has_fa c 128 rfl)⟩
theorem txtReader_of (c : He.SaysT fa fn ts w K) : TxtRd K (He.ga K "Reader") :=
  ⟨He.cls_ok (has_fa c 130 rfl), He.noat_ok (has_fa c 131 rfl), He.noat_ok (has_fa c 132 rfl), He.noat_ok (has_fa c 133 rfl), He.noat_ok (has_fa c 134 rfl), He.noat_ok (has_fa c 135 rfl)⟩
theorem txtPage_of (c : He.SaysT fa fn ts w K) : TxtP K (He.ga K "Page") :=
  ⟨He.cls_ok (has_fa c 137 rfl), He.noat_ok (has_fa c 138 rfl), He.noat_ok (has_fa c 139 rfl), He.noat_ok (has_fa c 140 rfl)⟩
theorem def_of {x : Str} {st : Stmt} (X : K.In h) (G : h.Ns mainGlobals mg) (c : He.SaysT fa fn ts w K) (i j : Nat) (e1 : fn[i]? = some (dD x st)) (e2 : fa[j]? = some (.glo x)) : DefAt K mg x st := by
  obtain ⟨fd, F⟩ := c.d.def_ i e1
  exact ⟨⟨fd, F⟩, He.glo_ok X G (c.d.fact j e2)⟩
theorem law_ok {P : Program} {base : Heap} {fd : FuncData} (F : FnP K "law" "law" sD_law (He.ga K "law") fd) (X : K.In h) (G : h.Ns mainGlobals mg) (c : He.SaysT fa fn ts w K) (e : ex K = true) (TB_is_letters : Rg.TabB base mg (He.codeOf K ("is_letters", none)) (tabAt K "is_letters")) (TB_is_figures : Rg.TabB base mg (He.codeOf K ("is_figures", none)) (tabAt K "is_figures")) (TB_is_known : Rg.TabB base mg (He.codeOf K ("is_known", none)) (tabAt K "is_known")) (TB_is_early : Rg.TabB base mg (He.codeOf K ("is_early", none)) (tabAt K "is_early")) (TB_settled_first : Rg.TabB base mg (He.codeOf K ("settled_first", none)) (tabAt K "settled_first")) (TB_is_head : Rg.TabB base mg (He.codeOf K ("is_head", none)) (tabAt K "is_head")) (TB_come : Rg.TabB base mg (He.codeOf K ("come", none)) (tabAt K "come")) : FnOk P w K mg base L2.CX0 14 (He.ga K "law") fd ["_law_script"] (spLaw04 K) := by
  have T := txt_of X G c e
  have W' : TxtW K (He.ga K "Walk") := txtWalk_of c
  have TB := TB_come
  have D_first_word : DefAt K mg "first_word" sD_first_word := def_of X G c 0 0 rfl rfl
  have D_short_take : DefAt K mg "short_take" sD_short_take := def_of X G c 1 1 rfl rfl
  have D_row_size : DefAt K mg "row_size" sD_row_size := def_of X G c 2 2 rfl rfl
  have D_signed : DefAt K mg "signed" sD_signed := def_of X G c 3 3 rfl rfl
  have D_op_of : DefAt K mg "op_of" sD_op_of := def_of X G c 4 4 rfl rfl
  have D_boxes_of : DefAt K mg "boxes_of" sD_boxes_of := def_of X G c 5 5 rfl rfl
  have D_row_at : DefAt K mg "row_at" sD_row_at := def_of X G c 6 6 rfl rfl
  have D_is_letters : DefAt K mg "is_letters" sD_is_letters := def_of X G c 7 7 rfl rfl
  have D_is_name : DefAt K mg "is_name" sD_is_name := def_of X G c 8 8 rfl rfl
  have D_is_own_name : DefAt K mg "is_own_name" sD_is_own_name := def_of X G c 9 9 rfl rfl
  have D_is_figures : DefAt K mg "is_figures" sD_is_figures := def_of X G c 10 10 rfl rfl
  have D_name_of : DefAt K mg "name_of" sD_name_of := def_of X G c 11 11 rfl rfl
  have D_is_box : DefAt K mg "is_box" sD_is_box := def_of X G c 12 12 rfl rfl
  have D_box_of : DefAt K mg "box_of" sD_box_of := def_of X G c 13 13 rfl rfl
  have D_split_sum : DefAt K mg "split_sum" sD_split_sum := def_of X G c 14 14 rfl rfl
  have D_part_of : DefAt K mg "part_of" sD_part_of := def_of X G c 15 15 rfl rfl
  have D_sum_of : DefAt K mg "sum_of" sD_sum_of := def_of X G c 16 16 rfl rfl
  have D_worth_of : DefAt K mg "worth_of" sD_worth_of := def_of X G c 17 17 rfl rfl
  have D_check_given : DefAt K mg "check_given" sD_check_given := def_of X G c 18 18 rfl rfl
  have D_names_in : DefAt K mg "names_in" sD_names_in := def_of X G c 19 19 rfl rfl
  have D_is_known : DefAt K mg "is_known" sD_is_known := def_of X G c 20 20 rfl rfl
  have D_is_early : DefAt K mg "is_early" sD_is_early := def_of X G c 21 21 rfl rfl
  have D_check_known : DefAt K mg "check_known" sD_check_known := def_of X G c 22 22 rfl rfl
  have D_settled_first : DefAt K mg "settled_first" sD_settled_first := def_of X G c 23 23 rfl rfl
  have D_split_row : DefAt K mg "split_row" sD_split_row := def_of X G c 24 24 rfl rfl
  have D_begin_macro : DefAt K mg "begin_macro" sD_begin_macro := def_of X G c 25 25 rfl rfl
  have D_end_macro : DefAt K mg "end_macro" sD_end_macro := def_of X G c 26 26 rfl rfl
  have D_called_rows : DefAt K mg "called_rows" sD_called_rows := def_of X G c 27 27 rfl rfl
  have D_fill_shaped : DefAt K mg "fill_shaped" sD_fill_shaped := def_of X G c 28 28 rfl rfl
  have D_fill_row : DefAt K mg "fill_row" sD_fill_row := def_of X G c 29 29 rfl rfl
  have D_put_row : DefAt K mg "put_row" sD_put_row := def_of X G c 30 30 rfl rfl
  have D_put_in : DefAt K mg "put_in" sD_put_in := def_of X G c 31 31 rfl rfl
  have D_read_row : DefAt K mg "read_row" sD_read_row := def_of X G c 32 32 rfl rfl
  have D_read : DefAt K mg "read" sD_read := def_of X G c 33 33 rfl rfl
  have D_size_of : DefAt K mg "size_of" sD_size_of := def_of X G c 34 34 rfl rfl
  have D_set_places : DefAt K mg "set_places" sD_set_places := def_of X G c 35 35 rfl rfl
  have D_worths_at : DefAt K mg "worths_at" sD_worths_at := def_of X G c 36 36 rfl rfl
  have D_is_growing : DefAt K mg "is_growing" sD_is_growing := def_of X G c 37 37 rfl rfl
  have D_settle : DefAt K mg "settle" sD_settle := def_of X G c 38 38 rfl rfl
  have D_check_room : DefAt K mg "check_room" sD_check_room := def_of X G c 39 39 rfl rfl
  have D_fitted : DefAt K mg "fitted" sD_fitted := def_of X G c 40 40 rfl rfl
  have D_words_of : DefAt K mg "words_of" sD_words_of := def_of X G c 41 41 rfl rfl
  have D_page_of : DefAt K mg "page_of" sD_page_of := def_of X G c 42 42 rfl rfl
  have D_written : DefAt K mg "written" sD_written := def_of X G c 43 43 rfl rfl
  have D_listed : DefAt K mg "listed" sD_listed := def_of X G c 44 44 rfl rfl
  have D_goal_of : DefAt K mg "goal_of" sD_goal_of := def_of X G c 45 45 rfl rfl
  have D_leads_of : DefAt K mg "leads_of" sD_leads_of := def_of X G c 46 46 rfl rfl
  have D_come : DefAt K mg "come" sD_come := def_of X G c 47 47 rfl rfl
  have D_walked : DefAt K mg "walked" sD_walked := def_of X G c 48 48 rfl rfl
  have D_is_whole : DefAt K mg "is_whole" sD_is_whole := def_of X G c 49 49 rfl rfl
  have D_check_words : DefAt K mg "check_words" sD_check_words := def_of X G c 50 50 rfl rfl
  have D_check_begins : DefAt K mg "check_begins" sD_check_begins := def_of X G c 51 51 rfl rfl
  have D_checked_walk : DefAt K mg "checked_walk" sD_checked_walk := def_of X G c 52 52 rfl rfl
  have D_come_to : DefAt K mg "come_to" sD_come_to := def_of X G c 53 53 rfl rfl
  have D__law_start : DefAt K mg "_law_start" sD__law_start := def_of X G c 54 54 rfl rfl
  have D__law_drawn : DefAt K mg "_law_drawn" sD__law_drawn := def_of X G c 55 55 rfl rfl
  have D__law_same : DefAt K mg "_law_same" sD__law_same := def_of X G c 56 56 rfl rfl
  have D__law_all_codes : DefAt K mg "_law_all_codes" sD__law_all_codes := def_of X G c 57 57 rfl rfl
  have D__law_as_text : DefAt K mg "_law_as_text" sD__law_as_text := def_of X G c 58 58 rfl rfl
  have D_law : DefAt K mg "law" sD_law := def_of X G c 59 59 rfl rfl
  have c_is_whole : Cal P w K mg base 1 "is_whole" spWhole [] := ok_is_whole D_is_whole T
  have c_signed : Cal P w K mg base 1 "signed" spSigned [] := ok_signed D_signed
  have c_row_size : Cal P w K mg base 1 "row_size" spSize [] := ok_row_size D_row_size T
  have c_check_words := ok_check_words D_check_words T c_is_whole
  have c_op_of : Cal P w K mg base 1 "op_of" spOpOf [] := ok_op_of D_op_of T
  have c_boxes_of : Cal P w K mg base 1 "boxes_of" spBoxes [] := ok_boxes_of D_boxes_of T
  have c_row_at := ok_row_at D_row_at T c_op_of c_row_size c_boxes_of
  have c_goal_of := ok_goal_of D_goal_of T c_row_size c_signed
  have c_leads_of := ok_leads_of D_leads_of T c_row_size c_goal_of
  obtain ⟨fdW, FW⟩ := c.d.def_ 60 (d := dWalk) rfl
  have GW : FnOk P w K mg base L2.CX0 1 _ fdW ["self"] (spInitW (He.ga K "Walk")) := ok_Winit FW W'
  have bW : Binds K fdW ["self"] [] := FunD.bindsN FW fun _ _ _ _ _ _ us hl => match us, hl with | [_], _ => rfl
  have c_Walk : Mak P w K mg base 1 "Walk" (He.ga K "Walk") (spInitW (He.ga K "Walk")) [] := ⟨_, fdW, _, [], He.mkr_ok (has_fa c 110 rfl), GW, He.glo_ok X G (has_fa c 69 rfl), bW, .nil⟩
  have c_come := ok_come D_come T W' TB c_row_size c_row_at c_leads_of
  have c_walked := ok_walked D_walked T c_Walk c_come
  have c_check_begins := ok_check_begins D_check_begins T c_is_whole
  have c_checked_walk := ok_checked_walk D_checked_walk T c_check_words c_check_begins c_walked
  have c_come_to := ok_come_to D_come_to T W' c_checked_walk
  have F' : TxtF K (He.ga K "Frame") := txtFrame_of c
  have R' : TxtR K (He.ga K "Row") := txtRow_of c
  have Rd' : TxtRd K (He.ga K "Reader") := txtReader_of c
  have P' : TxtP K (He.ga K "Page") := txtPage_of c
  have c_is_letters := ok_is_letters (P := P) (base := base) D_is_letters T TB_is_letters
  have c_is_name := ok_is_name (P := P) (base := base) D_is_name T c_is_letters
  have c_is_own_name := ok_is_own_name (P := P) (base := base) D_is_own_name T c_is_letters
  have c_is_figures := ok_is_figures (P := P) (base := base) D_is_figures T TB_is_figures
  have c_split_sum := ok_split_sum (P := P) (base := base) D_split_sum T
  have c_is_box := ok_is_box (P := P) (base := base) D_is_box T F'
  have c_box_of := ok_box_of (P := P) (base := base) D_box_of T F' c_is_box
  have c_name_of := ok_name_of (P := P) (base := base) D_name_of T F' c_is_name c_is_own_name
  have c_part_of := ok_part_of (P := P) (base := base) D_part_of T F' c_is_figures c_name_of
  have c_worth_of := worth_m (ok_worth_of (P := P) (base := base) D_worth_of T)
  have c_sum_of := ok_sum_of (P := P) (base := base) D_sum_of T c_split_sum c_part_of
  have c_split_row := ok_split_row (P := P) (base := base) D_split_row T
  obtain ⟨fdF, FF⟩ := c.d.def_ 61 (d := dFrame) rfl
  have GF : FnOk P w K mg base L2.CX0 1 _ fdF ["self", "row", "reach", "own"] (spInitF (He.ga K "Frame")) := ok_Finit FF F'
  have bF : Binds K fdF ["self", "row", "reach", "own"] [] := FunD.bindsN FF fun _ _ _ _ _ _ us hl => match us, hl with | [_, _, _, _], _ => rfl
  have c_Frame : Mak P w K mg base 1 "Frame" (He.ga K "Frame") (spInitF (He.ga K "Frame")) [] := ⟨_, fdF, _, [], He.mkr_ok (has_fa c 117 rfl), GF, He.glo_ok X G (has_fa c 70 rfl), bF, .nil⟩
  obtain ⟨fdR, FR⟩ := c.d.def_ 62 (d := dRow) rfl
  have GR : FnOk P w K mg base L2.CX0 1 _ fdR ["self", "row"] (spInitR (He.ga K "Row")) := ok_Rinit FR R'
  have bR : Binds K fdR ["self", "row"] [] := FunD.bindsN FR fun _ _ _ _ _ _ us hl => match us, hl with | [_, _], _ => rfl
  have c_Row : Mak P w K mg base 1 "Row" (He.ga K "Row") (spInitR (He.ga K "Row")) [] := ⟨_, fdR, _, [], He.mkr_ok (has_fa c 129 rfl), GR, He.glo_ok X G (has_fa c 71 rfl), bR, .nil⟩
  obtain ⟨fdD, FD⟩ := c.d.def_ 63 (d := dReader) rfl
  have GD : FnOk P w K mg base L2.CX0 1 _ fdD ["self"] (spInitRd (He.ga K "Reader")) := ok_Rdinit FD Rd'
  have bD : Binds K fdD ["self"] [] := FunD.bindsN FD fun _ _ _ _ _ _ us hl => match us, hl with | [_], _ => rfl
  have c_Reader : Mak P w K mg base 1 "Reader" (He.ga K "Reader") (spInitRd (He.ga K "Reader")) [] := ⟨_, fdD, _, [], He.mkr_ok (has_fa c 136 rfl), GD, He.glo_ok X G (has_fa c 72 rfl), bD, .nil⟩
  obtain ⟨fdP, FP⟩ := c.d.def_ 64 (d := dPage) rfl
  have GP : FnOk P w K mg base L2.CX0 1 _ fdP ["self", "rows", "worths", "end"] (spInitP (He.ga K "Page")) := ok_Pinit FP P'
  have bP : Binds K fdP ["self", "rows", "worths", "end"] [] := FunD.bindsN FP fun _ _ _ _ _ _ us hl => match us, hl with | [_, _, _, _], _ => rfl
  have c_Page : Mak P w K mg base 1 "Page" (He.ga K "Page") (spInitP (He.ga K "Page")) [] := ⟨_, fdP, _, [], He.mkr_ok (has_fa c 141 rfl), GP, He.glo_ok X G (has_fa c 73 rfl), bP, .nil⟩
  have c_fill_shaped := ok_fill_shaped (P := P) (base := base) D_fill_shaped T R' c_box_of c_sum_of
  have c_fill_row := fill_m (ok_fill_row D_fill_row T R' c_name_of c_sum_of c_fill_shaped)
  have c_called_rows : Cal P w K mg base 7 "called_rows" (spCalled False K (He.ga K "Row") (He.ga K "Frame") (He.ga K "Macro") (He.ga K "Reader")) [] := cal_of D_called_rows sc_called_rows (fun _ _ _ _ _ _ us hl => match us, hl with | [_, _, _], _ => rfl) (fun _ _ _ _ h => h.1.elim) (fun _ _ _ _ _ _ _ _ _ h => h.1.elim)
  have c_begin_macro : Cal P w K mg base 3 "begin_macro" (fun _ _ _ _ => False) [] := cal_none D_begin_macro sc_begin_macro fun _ _ _ _ _ _ us hl => match us, hl with | [_, _, _], _ => rfl
  have c_end_macro : Cal P w K mg base 1 "end_macro" (fun _ _ _ _ => False) [] := cal_none D_end_macro sc_end_macro fun _ _ _ _ _ _ us hl => match us, hl with | [_, _], _ => rfl
  have c_put_row := ok_put_row (P := P) (base := base) D_put_row T R' F' Rd' c_Row (name_c c_name_of) c_called_rows c_fill_row
  have c_put_in := ok_put_in (P := P) (base := base) D_put_in T F' Rd' c_Frame c_put_row
  have c_read_row := ok_read_row (P := P) (base := base) D_read_row T Rd' c_begin_macro c_end_macro c_put_in
  have c_read := ok_read (P := P) (base := base) D_read T Rd' c_Reader c_split_row c_read_row
  have c_names_in := ok_names_in (P := P) (base := base) D_names_in T
  have c_is_known := ok_is_known (P := P) (base := base) D_is_known T TB_is_known c_names_in
  have c_is_early := ok_is_early (P := P) (base := base) D_is_early T TB_is_early c_names_in
  have c_check_given := ok_check_given (P := P) (base := base) D_check_given T R'
  have c_check_known := ok_check_known (P := P) (base := base) D_check_known T R' c_is_known c_is_early c_worth_of
  have c_settled_first := ok_settled_first (P := P) (base := base) D_settled_first T R' TB_settled_first c_names_in
  have c_size_of := ok_size_of (P := P) (base := base) D_size_of T R' c_row_size
  have c_set_places := ok_set_places (P := P) (base := base) D_set_places T R' c_size_of
  have c_is_growing := ok_is_growing (P := P) (base := base) D_is_growing T R' c_worth_of
  have c_worths_at := ok_worths_at (P := P) (base := base) D_worths_at T R' c_worth_of
  have c_settle := ok_settle (P := P) (base := base) D_settle T R' c_set_places c_worths_at c_is_growing c_Page
  have c_check_room := ok_check_room (P := P) (base := base) D_check_room T R' c_size_of
  have c_fitted := ok_fitted (P := P) (base := base) D_fitted T R' c_size_of
  have c_first_word := ok_first_word (P := P) (base := base) D_first_word T
  have c_short_take := ok_short_take (P := P) (base := base) D_short_take T
  have c_words_of := ok_words_of (P := P) (base := base) D_words_of T R' c_worth_of c_fitted c_first_word c_short_take
  have c_page_of := ok_page_of (P := P) (base := base) D_page_of T R' P' c_read c_check_given c_check_known c_settled_first c_settle c_check_room c_words_of
  have c_written := ok_written (P := P) (base := base) D_written T R' P' c_page_of
  have c_listed := ok_listed (P := P) (base := base) D_listed T R' P' c_page_of
  have c_start : Cal P w K mg base 1 "_law_start" (spStart K) [] := ok_start D__law_start
  have c_drawn : Cal P w K mg base 1 "_law_drawn" (spDrawn K) [] := ok_drawn D__law_drawn T
  have c_codes : Cal P w K mg base 1 "_law_all_codes" spCodes [] := ok_all_codes D__law_all_codes
  have c_text := ok_as_text D__law_as_text T c_drawn
  have c_s0 : Cal P w K mg base 1 "_law_same" (spSame 0) [] := ok_same0 D__law_same
  have c_s2 := ok_sameS D__law_same T (ok_sameS D__law_same T c_s0)
  exact ok_law04 F T c_start c_drawn c_codes c_text c_s2 c_listed c_written c_come_to
theorem facts {P : Program} {f : Addr} (X : K.In h) (G : h.Ns mainGlobals mg) (hfa : mg ("law" : Str) = some (.ref f)) (c : He.SaysT fa fn ts w K) (e : ex K = true) :
    ∃ fd : FuncData, (∀ (s : Shared) (v : Value), BindsTo s fd ⟨[v], []⟩ [("_law_script", v)]) ∧ ∀ base : Heap, K.In base → base.Ns mainGlobals mg → (∀ p ∈ [He.cT K ("is_letters", none), He.cT K ("is_figures", none), He.cT K ("is_known", none), He.cT K ("is_early", none), He.cT K ("settled_first", none), He.cT K ("is_head", none), He.cT K ("come", none)], LamX.TabB base mg p.1 p.2) → FnOk P w K mg base L2.CX0 14 f fd ["_law_script"] (spLaw04 K) := by
  obtain ⟨fd, F⟩ := c.d.def_ 59 (d := dD "law" sD_law) rfl
  have q := hfa.symm.trans (He.glo_ok X G (c.d.fact 59 (f := .glo "law") rfl))
  cases q
  have b := FunD.bindsA (ps := ["_law_script"]) F fun _ _ _ _ _ _ us hl => match us, hl with | [_], _ => rfl
  exact ⟨fd, fun s v => b s [v] rfl, fun base _ _ hT => law_ok F X G c e (Rg.tabB_of (hT (He.cT K ("is_letters", none)) (by simp))) (Rg.tabB_of (hT (He.cT K ("is_figures", none)) (by simp))) (Rg.tabB_of (hT (He.cT K ("is_known", none)) (by simp))) (Rg.tabB_of (hT (He.cT K ("is_early", none)) (by simp))) (Rg.tabB_of (hT (He.cT K ("settled_first", none)) (by simp))) (Rg.tabB_of (hT (He.cT K ("is_head", none)) (by simp))) (Rg.tabB_of (hT (He.cT K ("come", none)) (by simp)))⟩
end
end Rs
namespace Rs
open PySem PySem.Spec PyProof.Rows L2 C8
theorem run_fa (w : World) : ∀ os, (Rg.endR R 6000 (w.withFollow "special-get-raises" false) os).map (Rg.obA R (PySem.W.view R.prog [109]) loose (w.withFollow "special-get-raises" false)) = some (true, PySem.W.openGood (PySem.W.view R.prog [109]) loose) := by
  intro os
  kernel_rfl
end Rs
namespace Rs
open PySem PySem.Spec PyProof.Rows L2 C8
theorem run_fo (w : World) : ∀ os, (Rg.endR R 6000 (w.withFollow "special-get-raises" false) os).map (Rg.obO as_ fa fn ts tf ex) = some (He.valX fn ts (w.withFollow "special-get-raises" false)) := by
  intro os
  kernel_rfl
end Rs
namespace Rs
open PySem PySem.Spec PyProof.Rows L2 C8
theorem run_f (w : World) : HandSHeadRun.RunEq R (PySem.W.view R.prog [109]) hk ob 6000 loose (w.withFollow "special-get-raises" false) := Rg.runEq_of (run_fa w) (run_fo w)
end Rs
namespace Rs
open PySem PySem.Spec PyProof.Rows L2 C8
theorem run_ta (w : World) : ∀ os, (Rg.endR R 6000 (w.withFollow "special-get-raises" true) os).map (Rg.obA R (PySem.W.view R.prog [109]) loose (w.withFollow "special-get-raises" true)) = some (true, PySem.W.openGood (PySem.W.view R.prog [109]) loose) := by
  intro os
  kernel_rfl
end Rs
namespace Rs
open PySem PySem.Spec PyProof.Rows L2 C8
theorem run_to (w : World) : ∀ os, (Rg.endR R 6000 (w.withFollow "special-get-raises" true) os).map (Rg.obO as_ fa fn ts tf ex) = some (He.valX fn ts (w.withFollow "special-get-raises" true)) := by
  intro os
  kernel_rfl
end Rs
namespace Rs
open PySem PySem.Spec PyProof.Rows L2 C8
theorem run_t (w : World) : HandSHeadRun.RunEq R (PySem.W.view R.prog [109]) hk ob 6000 loose (w.withFollow "special-get-raises" true) := Rg.runEq_of (run_ta w) (run_to w)
end Rs
namespace Rs
open PySem PySem.Spec PyProof.Rows L2 C8
theorem run_eq (w : World) : HandSHeadRun.RunEq R (PySem.W.view R.prog [109]) hk ob 6000 loose w :=
  PySem.W.byRow2 "special-get-raises" (P := fun w => HandSHeadRun.RunEq R (PySem.W.view R.prog [109]) hk ob 6000 loose w) run_f run_t w
end Rs
open PySem PySem.W PySem.Calls PyProof.Rows
theorem PySem.Challenge.cw_rowscribe_k04_rows_of_all_sorts_holds : PySem.Challenge.rw_rowscribe_k04_rows_of_all_sorts.Holds := by
  w_on; o_law
  refine HandSHeadRun.head_any (r := OpenLaw.row PySem.Challenge.rw_rowscribe_k04_rows_of_all_sorts) (q := view (OpenLaw.row PySem.Challenge.rw_rowscribe_k04_rows_of_all_sorts).prog [109]) (H := Rs.hk) (ob := Rs.ob) (M := 6000) (loose := Rs.loose) (d := HandSHeadRun.topDef (OpenLaw.row PySem.Challenge.rw_rowscribe_k04_rows_of_all_sorts).prog 109) (kwd := []) Rs.ob_eq
    (by kernel_rfl) (fun s => by kernel_rfl) Rs.run_eq (by kernel_rfl) (by kernel_rfl) (by kernel_rfl) (by rfl) (by first | assumption | decide +kernel) (by decide +kernel) ⟨rfl, rfl, rfl, rfl, rfl, by decide +kernel⟩ ?hw ?hc
  case hw => w_witness2
  case hc =>
    refine LamX.walk_ofTsE (l := PySem.Challenge.rw_rowscribe_k04_rows_of_all_sorts) (n := 63) (k := 14) (x := "_law_script") (CX := fun _ => L2.CX0) rfl (by decide) (by kernel_rfl) ⟨rfl, by decide, by decide⟩ ?F (fun _ _ _ _ _ z => z)
    intro w mg fa h Y G hmg0
    obtain ⟨K, KX, c⟩ := Y
    have hmg : mg ("law" : PySem.Str) = some (.ref fa) := by
      have e : (HandSHeadRun.topDef (OpenLaw.row PySem.Challenge.rw_rowscribe_k04_rows_of_all_sorts).prog 109).name = ("law" : PySem.Str) := by kernel_rfl
      rw [← e]
      exact hmg0
    obtain ⟨fd, hb, hF⟩ := Rs.facts (P := (PySem.Challenge.rw_rowscribe_k04_rows_of_all_sorts).prog) (w := w) KX G hmg c.t c.more
    refine ⟨K, KX, fd, [He.cT K ("is_letters", none), He.cT K ("is_figures", none), He.cT K ("is_known", none), He.cT K ("is_early", none), He.cT K ("settled_first", none), He.cT K ("is_head", none), He.cT K ("come", none)], Rg.spTab [Rs.tabAt K "is_letters", Rs.tabAt K "is_figures", Rs.tabAt K "is_known", Rs.tabAt K "is_early", Rs.tabAt K "settled_first", Rs.tabAt K "is_head", Rs.tabAt K "come"] (Rs.spLaw04 K), ?_, ?_, ?_, hb, ?_, fun base hK hG hT => Rg.fnok_tab _ (hF base hK hG hT)⟩
    · intro p hp
      obtain ⟨q, hq, rfl⟩ := List.mem_map.mp (show p ∈ Rs.tf.map (He.cT K) from hp)
      exact c.empty q hq
    · intro p hp
      obtain ⟨q, hq, rfl⟩ := List.mem_map.mp (show p ∈ Rs.tf.map (He.cT K) from hp)
      exact c.out q hq
    · intro p hp
      obtain ⟨q, hq, rfl⟩ := List.mem_map.mp (show p ∈ Rs.tf.map (He.cT K) from hp)
      exact PySem.W.codeHd_of_K KX (c.hd q hq)
    · intro H a ns hl _ hT hS
      have hT0 : ∀ P ∈ Rs.gens.map (Rs.tabAt K), H P = some (.tbl #[]) := fun P hP => by
        obtain ⟨x, hx, rfl⟩ := List.mem_map.mp (show P ∈ Rs.gens.map (Rs.tabAt K) from hP)
        exact hT (He.cT K (x, none)) (show He.cT K (x, none) ∈ Rs.gens.map (fun y => He.cT K (y, none)) from List.mem_map.mpr ⟨x, hx, rfl⟩)
      refine ⟨hT0, a, ns, rfl, ?_, fun x hx => Rg.tabH_in (show Rs.tabAt K x ∈ Rs.gens.map (Rs.tabAt K) from List.mem_map.mpr ⟨x, hx, rfl⟩), fun H' hH' => ⟨fun P hP => ?_, fun _ => rfl⟩⟩
      · rcases hS with (hS | ⟨o, hS⟩) | hS
        · exact .inl (.inl ((Rg.tabH_out (fun z => by
            rw [hT0 _ z] at hS
            cases hS)).trans hS))
        · exact .inl (.inr ⟨o, (Rg.tabH_out (fun z => by
            rw [hT0 _ z] at hS
            cases hS)).trans hS⟩)
        · exact .inr hS
      · obtain ⟨x, hx, rfl⟩ := List.mem_map.mp (show P ∈ Rs.gens.map (Rs.tabAt K) from hP)
        exact hH' x hx
