/- What a schema's text says, as plain functions of its tokens: names, relations, who, rewrites; or the error and its place. Conditions: none; nothing of the program is named here. -/
import Derived.Test.YtdndncodpepdfaaTok
namespace Go.Proofs.Ytdndncodpepdfaa

abbrev OpP := Nat × ByteArray × ByteArray
abbrev SubP := ByteArray × ByteArray
structure RelP where
  name : ByteArray
  view : ByteArray
  edit : ByteArray
  check : ByteArray
  subs : List SubP
  ops : List OpP
  deriving DecidableEq
structure TypP where
  name : ByteArray
  rels : List RelP
  deriving DecidableEq
/-- An error and its place; or what was read, and the tokens that are left. -/
abbrev Rs (α : Type) := Except (Nat × Nat) (α × List Tk)

def sType : ByteArray := ⟨#[116, 121, 112, 101]⟩
def sRel : ByteArray := ⟨#[114, 101, 108]⟩
def sIs : ByteArray := ⟨#[105, 115]⟩
def sThis : ByteArray := ⟨#[116, 104, 105, 115]⟩
/-- A sign's text. -/
def sg (c : UInt8) : ByteArray := ⟨#[c]⟩
def hdT (l : List Tk) : Tk := l.headD (3, ⟨#[]⟩, 0)
/-- A key, or a sign, is next. -/
def isT (s : ByteArray) (l : List Tk) : Bool := decide ((hdT l).2.1 = s ∧ ((hdT l).1 = 2 ∨ keyB s = true))
def badT {α : Type} (c : Nat) (l : List Tk) : Rs α := .error (c, (hdT l).2.2)
def needT (s : ByteArray) (l : List Tk) : Rs Unit := if isT s l = true then .ok ((), l.tail) else badT 30 l
def nameT (l : List Tk) : Rs ByteArray := if (hdT l).1 = 1 ∧ keyB (hdT l).2.1 = false then .ok ((hdT l).2.1, l.tail) else badT 30 l
/-- First this, then that. -/
def andT {α β : Type} (r : Rs α) (k : α → List Tk → Rs β) : Rs β := match r with
  | .error e => .error e
  | .ok (a, l) => k a l
theorem andT_ok {α β : Type} (a : α) (l : List Tk) (k : α → List Tk → Rs β) : andT (.ok (a, l)) k = k a l := rfl
theorem andT_err {α β : Type} (e : Nat × Nat) (k : α → List Tk → Rs β) : andT (.error e : Rs α) k = .error e := rfl

/-- Which operation a sign between parts is; 0: none. -/
def opT (l : List Tk) : Nat := if isT (sg 124) l = true then 4 else if isT (sg 38) l = true then 5 else if isT (sg 45) l = true then 6 else 0
mutual
def partF : Nat → Nat → List Tk → Rs (List OpP)
  | 0, _, l => badT 30 l
  | f + 1, deep, l =>
    if isT sThis l = true then .ok ([(1, ⟨#[]⟩, ⟨#[]⟩)], l.tail)
    else if isT (sg 40) l = true then
      (if deep = 8 then badT 13 l
      else andT (partF f (deep + 1) l.tail) fun o r => andT (moreF f (deep + 1) o r) fun o r => andT (needT (sg 41) r) fun _ r => .ok (o, r))
    else andT (nameT l) fun n r =>
      if isT (sg 46) r = true then andT (nameT r.tail) fun m r => .ok ([(3, n, m)], r) else .ok ([(2, n, ⟨#[]⟩)], r)
def moreF : Nat → Nat → List OpP → List Tk → Rs (List OpP)
  | 0, _, _, l => badT 30 l
  | f + 1, deep, acc, l =>
    if opT l = 0 then .ok (acc, l)
    else andT (partF f deep l.tail) fun o r => moreF f deep (acc ++ o ++ [(opT l, ⟨#[]⟩, ⟨#[]⟩)]) r
end
/-- A rewrite. -/
def rewF (f deep : Nat) (l : List Tk) : Rs (List OpP) := andT (partF f deep l) fun o r => moreF f deep o r
/-- Who may stand in a tuple: one at least. -/
def whoF : Nat → List SubP → List Tk → Rs (List SubP)
  | 0, _, l => badT 30 l
  | f + 1, acc, l => andT (nameT l) fun n r =>
    andT (if isT (sg 35) r = true then nameT r.tail else .ok (⟨#[]⟩, r)) fun m r =>
      if isT (sg 44) r = true then whoF f (acc ++ [(n, m)]) r.tail else .ok (acc ++ [(n, m)], r)
/-- A relation, behind its key. -/
def relF (f : Nat) (l : List Tk) : Rs RelP :=
  andT (nameT l) fun n r => andT (needT (sg 40) r) fun _ r => andT (nameT r) fun v r => andT (needT (sg 44) r) fun _ r =>
  andT (nameT r) fun e r => andT (needT (sg 44) r) fun _ r => andT (nameT r) fun c r => andT (needT (sg 41) r) fun _ r =>
  andT (needT (sg 58) r) fun _ r =>
  andT (if isT sIs r = true ∨ isT (sg 59) r = true then .ok ([], r) else whoF f [] r) fun w r =>
  andT (if isT sIs r = true then rewF f 0 r.tail else .ok ([(1, ⟨#[]⟩, ⟨#[]⟩)], r)) fun o r =>
  andT (needT (sg 59) r) fun _ r => .ok (⟨n, v, e, c, w, o⟩, r)
def relsF : Nat → Nat → List RelP → List Tk → Rs (List RelP)
  | _, 0, _, l => badT 30 l
  | f, g + 1, acc, l => if isT sRel l = true then andT (relF f l.tail) fun x r => relsF f g (acc ++ [x]) r else .ok (acc, l)
def typesF : Nat → Nat → List TypP → List Tk → Rs (List TypP)
  | _, 0, _, l => badT 30 l
  | f, g + 1, acc, l =>
    if isT sType l = true then andT (nameT l.tail) fun n r => andT (needT (sg 123) r) fun _ r => andT (relsF f f [] r) fun rs r =>
      andT (needT (sg 125) r) fun _ r => typesF f g (acc ++ [⟨n, rs⟩]) r
    else .ok (acc, l)
def schemaF (l : List Tk) : Rs (List TypP) := andT (typesF (2 * l.length + 2) (2 * l.length + 2) [] l) fun t r => if (hdT r).1 = 3 then .ok (t, r) else badT 30 r
def outS (r : Rs (List TypP)) : List TypP × Nat × Nat := match r with
  | .error e => ([], e)
  | .ok p => (p.1, 0, 0)
/-- What a text says; else the error, and its place. -/
def parseS (s : ByteArray) : List TypP × Nat × Nat := if (allS s).2.1 = 0 then outS (schemaF (allS s).1) else ([], (allS s).2)

def exP : ByteArray := ⟨#[116, 121, 112, 101, 32, 100, 111, 99, 32, 123, 32, 114, 101, 108, 32, 114, 32, 40, 118, 44, 32, 101, 44, 32, 99, 41, 58, 32, 117, 115, 101, 114, 44, 32, 103, 114, 111, 117, 112, 35, 109, 32, 105, 115, 32, 116, 104, 105, 115, 32, 124, 32, 97, 46, 98, 32, 45, 32, 99, 59, 32, 125]⟩
theorem exP_says : parseS exP = ([⟨⟨#[100, 111, 99]⟩, [⟨⟨#[114]⟩, ⟨#[118]⟩, ⟨#[101]⟩, ⟨#[99]⟩, [(⟨#[117, 115, 101, 114]⟩, ⟨#[]⟩), (⟨#[103, 114, 111, 117, 112]⟩, ⟨#[109]⟩)], [(1, ⟨#[]⟩, ⟨#[]⟩), (3, ⟨#[97]⟩, ⟨#[98]⟩), (4, ⟨#[]⟩, ⟨#[]⟩), (2, ⟨#[99]⟩, ⟨#[]⟩), (6, ⟨#[]⟩, ⟨#[]⟩)]⟩]⟩], 0, 0) := by decide +kernel
def exQ : ByteArray := ⟨#[116, 121, 112, 101, 32, 100, 111, 99, 32, 123, 32, 114, 101, 108]⟩
theorem exQ_says : parseS exQ = ([], 30, 14) := by decide +kernel
end Go.Proofs.Ytdndncodpepdfaa
