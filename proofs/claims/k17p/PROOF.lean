import PyProof.Rows.All
import Wide.All
import OpenK.AllK
import Wide.FinOn
import HandS.ForMost
import HandS.ExcInit
import HandS.Lambda
import HandS.WordsExc
import HandS.TupAny
import HandS.WideBits
import HandS.Wide
import HandS.Flow
import HandS.SortInts
import HandS.Conv
import HandS.Style
import HandS.Zip
import HandS.EndBits
import KE.KNest
import HandS.IsInst
import KE.KExcIs
import HandS.ExcField
import HandS.ExcValue
import PyProof.Rows.CountFlat
import HandS.DictComp
import PyProof.ReprRoads
import HandS.Dict
import KE.GoesEnum
import KE.GoesMore
import HandS.TupMul
import KE.SortData
import KE.GoesZip
import KE.DataMinMax
import PyProof.Rows.SetFrom
import HandS.Finally
import HandS.More
import HandS.Text
import PyProof.DictUpdate
import OpenK.KOps
import HandS.ExcOwn
import KE.GoesEnumKw
import HandS.StrMore
import HandS.SetFor
import HandS.TupLe
import HandS.List
import HandS.Comp
import HandS.DictTup
import HandS.Codes
import KE.KFmtOwn
import PyProof.InstEq
import PyProof.FactsAll.object_2
import PyProof.DictMoreH
import PyProof.MaxThree
import PySem.Challenge.RW_queueloops_k17_whole_scripts_of_pairs
import PyProof.ReprLen
import LJl
namespace DL
theorem jA {α : Type _} {a : α} {l : List α} : (a :: l)[0]? = some a := rfl
theorem jB {α : Type _} {a : α} {l : List α} {i : Nat} : (a :: l)[i + 1]? = l[i]? := rfl
theorem jC {α : Type _} {a : α} {l : List α} : (a :: l).length = l.length + 1 := rfl
theorem jD {α : Type _} : ([] : List α).length = 0 := rfl
theorem jE {α : Type _} {a : α} {l m : List α} : (a :: l) ++ m = a :: (l ++ m) := rfl
theorem jF {α : Type _} (l : List α) : [] ++ l = l := rfl
theorem jG {α : Type _} {β : Type _} (a : α) (f : α → Option β) : (some a).bind f = f a := rfl
theorem jH {α : Type _} {a b : α} {l : List α} : (a :: l).set 0 b = b :: l := rfl
theorem jI {α : Type _} {a b : α} {l : List α} {i : Nat} : (a :: l).set (i + 1) b = a :: l.set i b := rfl
theorem jJ {α : Type _} {β : Type _} {f : α → β} {a : α} {l : List α} : (a :: l).map f = f a :: l.map f := rfl
theorem jK {α : Type _} {β : Type _} {f : α → β} : ([] : List α).map f = [] := rfl
theorem jL {α : Type _} {f : α → Bool} {a : α} {l : List α} : (a :: l).any f = (f a || l.any f) := rfl
theorem jM {α : Type _} {f : α → Bool} : ([] : List α).any f = false := rfl
theorem jN {α : Type _} {f : α → Bool} {a : α} {l : List α} : (a :: l).all f = (f a && l.all f) := rfl
theorem jO {α : Type _} {f : α → Bool} : ([] : List α).all f = true := rfl
theorem jP {α : Type _} {a d : α} {l : List α} : (a :: l).getD 0 d = a := rfl
theorem jQ {α : Type _} {a d : α} {l : List α} {i : Nat} : (a :: l).getD (i + 1) d = l.getD i d := rfl
theorem jR {α : Type _} [BEq α] [ReflBEq α] (a : α) : (a == a) = true := ReflBEq.rfl
theorem jS (b : Bool) : (false && b) = false := rfl
theorem jT (b : Bool) : (true && b) = b := rfl
theorem jU (b : Bool) : (b && false) = false := by cases b <;> rfl
theorem jV (b : Bool) : (b && true) = b := by cases b <;> rfl
theorem jW (b : Bool) : (b || b) = b := by cases b <;> rfl
theorem jX (b : Bool) : (b && b) = b := by cases b <;> rfl
theorem jY (b : Bool) : (b || false) = b := by cases b <;> rfl
theorem jZ (b : Bool) : (false || b) = b := rfl
theorem uA (b : Bool) : (b || true) = true := by cases b <;> rfl
theorem uB (b : Bool) : (true || b) = true := rfl
theorem uC : (!false) = true := rfl
theorem uD : (!true) = false := rfl
theorem uE {p : Prop} [Decidable p] : (decide p = true) = p := _root_.decide_eq_true_eq
end DL
set_option Elab.async false
set_option linter.all false
set_option maxRecDepth 100000
set_option maxHeartbeats 2000000
/-! DL: readings over plain data. A value of the program is told by a datum (PD), the slots of a def by what they hold (SD), so that what is left of a def's body speaks of data alone. -/
namespace DL
open PySem L2

/-- a datum: what can no longer change -/
inductive PD where
  | non | bl (b : Bool) | int (i : Int) | str (s : Str)
  | lst (xs : List PD) | tup (xs : List PD)
  /-- the script -/
  | scr (ns : List Int)
  | dct (kvs : List (Key × PD))
  | ins (C : Addr) (fs : List (Str × PD))
  | err (C : Addr) (v : PD)
  /-- a function, made when g was stable -/
  | fn (f : Addr) (g : Hp)
/-- a thing that may still change -/
inductive OD where
  | lst (xs : List PD)
  | dK (kvs : List (Key × PD))
  | dT (kvs : List (List Key × PD))
def OD.pd : OD → Option PD
  | .lst xs => some (.lst xs)
  | .dK kvs => some (.dct kvs)
  | .dT _ => none
/-- what a slot holds -/
inductive SD where
  | emp | dat (d : PD) | own (o : OD)
abbrev Sl := List SD
/-- what an expression gives: a datum, a new thing of one's own, or the thing of a slot -/
inductive Rz where
  | dat (d : PD) | own (o : OD) | bor (i : Nat)

/-- no table of code objects -/
def Nt (o : HO) : Prop := ∀ ps, o ≠ .tbl ps
theorem nt_lst {xs : List V} : Nt (.lst xs) := fun _ z => by cases z
theorem nt_tup {xs : List V} : Nt (.tup xs) := fun _ z => by cases z
theorem nt_dK {xs : List (Key × V)} : Nt (.dK xs) := fun _ z => by cases z
theorem nt_dT {xs : List (List Key × V)} : Nt (.dT xs) := fun _ z => by cases z
theorem nt_xd {xs : List (Str × V)} : Nt (.xd xs) := fun _ z => by cases z
theorem nt_frz {o : Obj} {u : HO} : Nt (.frz o u) := fun _ z => by cases z
theorem nt_ext {φ : Heap → Prop} : Nt (.ext φ) := fun _ z => by cases z
/-- what a slot may own -/
def Ow : HO → Prop
  | .lst _ => True
  | .dK _ => True
  | .dT _ => True
  | .ins _ _ _ => True
  | .own _ => True
  | _ => False
theorem Ow.nt : ∀ {o : HO}, Ow o → Nt o := fun {o} h ps z => by subst z; exact h
/-- tracked, and no table -/
def Tr (H : Hp) (a : Addr) : Prop := ∃ o, H a = some o ∧ Nt o
theorem Tr.no {H : Hp} {a : Addr} (t : Tr H a) (h : H a = none) : False := by obtain ⟨o, e, _⟩ := t; rw [h] at e; cases e
theorem Tr.upd {H : Hp} {a p : Addr} {o : HO} (t : Tr H a) (h : a ≠ p) : Tr (L2.upd H p o) a := by obtain ⟨u, e, n⟩ := t; exact ⟨u, by rw [upd_ne h]; exact e, n⟩
/-- all but tables of code objects stay -/
def Ex (H H' : Hp) : Prop := ∀ a o, H a = some o → Nt o → H' a = some o
theorem Ex.refl (H : Hp) : Ex H H := fun _ _ h _ => h
theorem Ex.trans {H H1 H2 : Hp} (a : Ex H H1) (b : Ex H1 H2) : Ex H H2 := fun x o h n => b x o (a x o h n) n
theorem Ex.new {H : Hp} {p : Addr} {o : HO} (h : H p = none) : Ex H (upd H p o) := fun a u e _ => by
  rw [upd_ne (ne_of_none e h)]; exact e
theorem Ex.both {H H' : Hp} {p : Addr} {o : HO} (e : Ex H H') (hn : H p = none) : Ex (upd H p o) (upd H' p o) := fun a u h n => by
  by_cases hp : a = p
  · subst hp; rw [upd_same] at h ⊢; exact h
  · rw [upd_ne hp] at h ⊢; exact e a u h n
theorem Ex.right {H H' : Hp} {p : Addr} {o : HO} (e : Ex H H') (hn : H p = none) : Ex H (upd H' p o) := fun a u h n => by
  rw [upd_ne (ne_of_none h hn)]; exact e a u h n
/-- the tables of code objects that are known: their marks in G -/
def Tb (G H : Hp) : Prop := ∀ a ps, G a = some (.tbl ps) → ∃ q t, ps = #[Value.str q t] ∧ LamX.TabS H a q
theorem tabS_new {H : Hp} {P p : Addr} {q : Str} {o : HO} (t : LamX.TabS H P q) (h : H p = none) : LamX.TabS (upd H p o) P q := t.ext fun a u e => by
  rw [upd_ne (ne_of_none e h)]; exact e
theorem tabS_put {H : Hp} {P p : Addr} {q : Str} {o o' : HO} (t : LamX.TabS H P q) (h : H p = some o) (n1 : Nt o) (n2 : ∀ c q, o ≠ LamX.CodeO c q) : LamX.TabS (upd H p o') P q := by
  obtain ⟨ps, h1, h2, h3⟩ := t
  have np : P ≠ p := fun z => by rw [z, h] at h1; exact n1 _ (Option.some.inj h1)
  refine ⟨ps, by rw [upd_ne np]; exact h1, h2, fun pos cv hc => ?_⟩
  obtain ⟨c, e1, e2⟩ := h3 pos cv hc
  exact ⟨c, e1, by rw [upd_ne (fun z => by rw [z, h] at e2; exact n2 _ _ (Option.some.inj e2))]; exact e2⟩
theorem Tb.new {G H : Hp} {p : Addr} {o : HO} (t : Tb G H) (h : H p = none) : Tb G (upd H p o) := fun a ps e => let ⟨q, k, e1, e2⟩ := t a ps e; ⟨q, k, e1, tabS_new e2 h⟩
theorem Tb.put {G H : Hp} {p : Addr} {o o' : HO} (t : Tb G H) (h : H p = some o) (n1 : Nt o) (n2 : ∀ c q, o ≠ LamX.CodeO c q) : Tb G (upd H p o') := fun a ps e => let ⟨q, k, e1, e2⟩ := t a ps e; ⟨q, k, e1, tabS_put e2 h n1 n2⟩
theorem mark_old {G : Hp} {p a : Addr} {o : HO} {ps : Array Value} (n : Nt o) (h : upd G p o a = some (.tbl ps)) : G a = some (.tbl ps) := by
  by_cases z : a = p
  · subst z; rw [upd_same] at h; exact absurd (Option.some.inj h) (n ps)
  · rw [upd_ne z] at h; exact h
/-- a new thing is marked in G, which is no table -/
theorem Tb.mark {G H : Hp} {p : Addr} {o : HO} (t : Tb G H) (n : Nt o) : Tb (upd G p o) H := fun a ps e => by
  by_cases z : a = p
  · subst z; rw [upd_same] at e; exact absurd (Option.some.inj e) (n ps)
  · rw [upd_ne z] at e; exact t a ps e
theorem Ex.free {H H' : Hp} {p : Addr} (e : Ex H H') (t : Tb H H') (h : H' p = none) : H p = none := by
  cases h1 : H p with
  | none => rfl
  | some o =>
    by_cases n : Nt o
    · rw [e p o h1 n] at h; cases h
    · obtain ⟨ps, hps⟩ := Classical.not_forall.mp n
      have hps : o = .tbl ps := Classical.not_not.mp hps
      subst hps
      obtain ⟨q, k, _, qs, h2, _⟩ := t p ps h1
      rw [h2] at h; cases h
theorem ex_l {K : PySem.W.Frag} {H H' : Hp} {a : Addr} {xs : List V} (e : Ex H H') (h : SqL K H a xs) : SqL K H' a xs := by
  rcases h with (h | ⟨o, h⟩) | h
  · exact Or.inl (Or.inl (e a _ h nt_lst))
  · exact Or.inl (Or.inr ⟨o, e a _ h nt_frz⟩)
  · exact Or.inr h
theorem ex_t {K : PySem.W.Frag} {H H' : Hp} {a : Addr} {xs : List V} (e : Ex H H') (h : SqT K H a xs) : SqT K H' a xs := by
  rcases h with (h | ⟨o, h⟩) | h
  · exact Or.inl (Or.inl (e a _ h nt_tup))
  · exact Or.inl (Or.inr ⟨o, e a _ h nt_frz⟩)
  · exact Or.inr h

/-- an exception, whatever its traceback is -/
def exa (e C : Addr) (d : Option Addr) : HO := .ext fun h => ∃ (oe : Obj) (vs : Array Value), h.get? e = some oe ∧ Zc (.ref C) d oe ∧ oe.data = .fields vs
/-- what is tracked of an own error: as it was made, or as it was caught -/
inductive ErrO (a C d : Addr) : HO → Prop
  | made : ErrO a C d (exo a C (some d))
  | had : ErrO a C d (exa a C (some d))
inductive ErrD (d : Addr) (fs : List (Str × V)) : HO → Prop
  | made : ErrD d fs (exd d fs)
  | had : ErrD d fs (.xd fs)
theorem ErrO.nt {a C d : Addr} {o : HO} : ErrO a C d o → Nt o
  | .made => nt_ext
  | .had => nt_ext
theorem ErrD.nt {d : Addr} {fs : List (Str × V)} {o : HO} : ErrD d fs o → Nt o
  | .made => nt_ext
  | .had => nt_xd
mutual
inductive Rp (K : PySem.W.Frag) (G : Hp) : V → PD → Prop
  | non : Rp K G .non .non
  | bl (b : Bool) : Rp K G (.bl b) (.bl b)
  | int (i : Int) : Rp K G (.int i) (.int i)
  | str (x : Str) : Rp K G (.str x) (.str x)
  | lst {a : Addr} {xs : List V} {ds : List PD} : G a = some (.lst xs) → RpAll K G xs ds → Rp K G (.ref a) (.lst ds)
  | scr {a : Addr} {ns : List Int} : SqL K G a (ns.map V.int) → Rp K G (.ref a) (.scr ns)
  | tup {a : Addr} {xs : List V} {ds : List PD} : SqT K G a xs → RpAll K G xs ds → Rp K G (.ref a) (.tup ds)
  | dct {a : Addr} {kvs : List (Key × V)} {kds : List (Key × PD)} : G a = some (.dK kvs) → RpKv K G kvs kds → Rp K G (.ref a) (.dct kds)
  /-- an own error, made: its class, its value -/
  | err {a C d : Addr} {o od : HO} {fs : List (Str × V)} {v : V} {u : PD} : G a = some o → G d = some od → ErrO a C d o → ErrD d fs od → fs.lookup ("value" : Str) = some v → Rp K G v u → Rp K G (.ref a) (.err C u)
  | fn {f : Addr} {g : Hp} : Ex g G → Rp K G (.ref f) (.fn f g)
  | ins {a C dx : Addr} {vfs : List (Str × V)} {fs : List (Str × PD)} : G a = some (.ins C dx vfs) → G dx = some (.own a) → RpKv K G (vfs.map fun p => ((Sum.inr p.1 : Key), p.2)) (fs.map fun p => ((Sum.inr p.1 : Key), p.2)) → Rp K G (.ref a) (.ins C fs)
inductive RpAll (K : PySem.W.Frag) (G : Hp) : List V → List PD → Prop
  | nil : RpAll K G [] []
  | cons {v : V} {vs : List V} {d : PD} {ds : List PD} : Rp K G v d → RpAll K G vs ds → RpAll K G (v :: vs) (d :: ds)
inductive RpKv (K : PySem.W.Frag) (G : Hp) : List (Key × V) → List (Key × PD) → Prop
  | nil : RpKv K G [] []
  | cons {k : Key} {v : V} {vs : List (Key × V)} {d : PD} {ds : List (Key × PD)} : Rp K G v d → RpKv K G vs ds → RpKv K G ((k, v) :: vs) ((k, d) :: ds)
end
section
variable {K : PySem.W.Frag} {G G' : Hp}
mutual
theorem Rp.mono (e : Ex G G') : ∀ {v : V} {d : PD}, Rp K G v d → Rp K G' v d
  | _, _, .non => .non
  | _, _, .bl b => .bl b
  | _, _, .int i => .int i
  | _, _, .str x => .str x
  | _, _, .lst h r => .lst (e _ _ h nt_lst) (RpAll.mono e r)
  | _, _, .scr h => .scr (ex_l e h)
  | _, _, .tup h r => .tup (ex_t e h) (RpAll.mono e r)
  | _, _, .dct h r => .dct (e _ _ h nt_dK) (RpKv.mono e r)
  | _, _, .err h1 h2 t1 t2 h3 r => .err (e _ _ h1 t1.nt) (e _ _ h2 t2.nt) t1 t2 h3 (Rp.mono e r)
  | _, _, .fn h => .fn (h.trans e)
  | _, _, .ins h1 h2 r => .ins (e _ _ h1 fun _ z => by cases z) (e _ _ h2 fun _ z => by cases z) (RpKv.mono e r)
theorem RpAll.mono (e : Ex G G') : ∀ {vs : List V} {ds : List PD}, RpAll K G vs ds → RpAll K G' vs ds
  | _, _, .nil => .nil
  | _, _, .cons h r => .cons (Rp.mono e h) (RpAll.mono e r)
theorem RpKv.mono (e : Ex G G') : ∀ {vs : List (Key × V)} {ds : List (Key × PD)}, RpKv K G vs ds → RpKv K G' vs ds
  | _, _, .nil => .nil
  | _, _, .cons h r => .cons (Rp.mono e h) (RpKv.mono e r)
end
theorem RpAll.length : ∀ {vs : List V} {ds : List PD}, RpAll K G vs ds → vs.length = ds.length
  | _, _, .nil => rfl
  | _, _, .cons _ r => congrArg (· + 1) (RpAll.length r)
theorem RpAll.append : ∀ {vs ws : List V} {ds es : List PD}, RpAll K G vs ds → RpAll K G ws es → RpAll K G (vs ++ ws) (ds ++ es)
  | _, _, _, _, .nil, s => s
  | _, _, _, _, .cons h r, s => .cons h (RpAll.append r s)
theorem RpAll.get : ∀ {vs : List V} {ds : List PD} {i : Nat} {d : PD}, RpAll K G vs ds → ds[i]? = some d → ∃ v, vs[i]? = some v ∧ Rp K G v d
  | _, _, _, _, .nil, e => by simp at e
  | _, _, 0, _, .cons h _, e => by simp at e; subst e; exact ⟨_, rfl, h⟩
  | _, _, i + 1, d, .cons _ r, e => by
    obtain ⟨v, h1, h2⟩ := RpAll.get (i := i) (d := d) r (by simpa using e)
    exact ⟨v, by simpa using h1, h2⟩
theorem RpAll.set {v : V} {d : PD} (h : Rp K G v d) : ∀ {vs : List V} {ds : List PD} (i : Nat), RpAll K G vs ds → RpAll K G (vs.set i v) (ds.set i d)
  | _, _, _, .nil => .nil
  | _, _, 0, .cons _ r => .cons h r
  | _, _, i + 1, .cons q r => .cons q (RpAll.set h i r)
theorem RpAll.take : ∀ {vs : List V} {ds : List PD} (n : Nat), RpAll K G vs ds → RpAll K G (vs.take n) (ds.take n)
  | _, _, 0, _ => .nil
  | _, _, _ + 1, .nil => .nil
  | _, _, n + 1, .cons h r => .cons h (RpAll.take n r)
theorem RpAll.drop : ∀ {vs : List V} {ds : List PD} (n : Nat), RpAll K G vs ds → RpAll K G (vs.drop n) (ds.drop n)
  | _, _, 0, r => r
  | _, _, _ + 1, .nil => .nil
  | _, _, n + 1, .cons _ r => RpAll.drop n r
theorem RpAll.eraseIdx : ∀ {vs : List V} {ds : List PD} (n : Nat), RpAll K G vs ds → RpAll K G (vs.eraseIdx n) (ds.eraseIdx n)
  | _, _, _, .nil => .nil
  | _, _, 0, .cons _ r => r
  | _, _, n + 1, .cons h r => .cons h (RpAll.eraseIdx n r)
theorem RpAll.dropLast {vs : List V} {ds : List PD} (r : RpAll K G vs ds) : RpAll K G vs.dropLast ds.dropLast := by
  rw [List.dropLast_eq_take, List.dropLast_eq_take, r.length]
  exact r.take _
theorem RpAll.ints : ∀ {vs : List V} {ns : List Int}, RpAll K G vs (ns.map PD.int) → vs = ns.map V.int
  | _, [], .nil => rfl
  | _, n :: ns, .cons (.int _) r => by rw [List.map_cons, RpAll.ints r]
theorem rp_ints : ∀ (ns : List Int), RpAll K G (ns.map V.int) (ns.map PD.int)
  | [] => .nil
  | n :: ns => .cons (.int n) (rp_ints ns)
end

/-- a thing that may change, as it stands -/
inductive RO (K : PySem.W.Frag) (G : Hp) : HO → OD → Prop
  | lst {vs : List V} {ds : List PD} : RpAll K G vs ds → RO K G (.lst vs) (.lst ds)
  | dK {vs : List (Key × V)} {ds : List (Key × PD)} : RpKv K G vs ds → RO K G (.dK vs) (.dK ds)
  | dT {vs : List (List Key × V)} {ds : List (List Key × PD)} : vs.map (·.1) = ds.map (·.1) → RpAll K G (vs.map (·.2)) (ds.map (·.2)) → RO K G (.dT vs) (.dT ds)
theorem RO.nt {K : PySem.W.Frag} {G : Hp} : ∀ {o : HO} {d : OD}, RO K G o d → Nt o
  | _, _, .lst _ => nt_lst
  | _, _, .dK _ => nt_dK
  | _, _, .dT _ _ => nt_dT
theorem RO.ow {K : PySem.W.Frag} {G : Hp} : ∀ {o : HO} {d : OD}, RO K G o d → Ow o
  | _, _, .lst _ => True.intro
  | _, _, .dK _ => True.intro
  | _, _, .dT _ _ => True.intro
theorem RO.nc {K : PySem.W.Frag} {G : Hp} : ∀ {o : HO} {d : OD}, RO K G o d → ∀ c q, o ≠ LamX.CodeO c q
  | _, _, .lst _ => fun _ _ z => by unfold LamX.CodeO at z; cases z
  | _, _, .dK _ => fun _ _ z => by unfold LamX.CodeO at z; cases z
  | _, _, .dT _ _ => fun _ _ z => by unfold LamX.CodeO at z; cases z
theorem RO.mono {K : PySem.W.Frag} {G G' : Hp} (e : Ex G G') : ∀ {o : HO} {d : OD}, RO K G o d → RO K G' o d
  | _, _, .lst r => .lst (r.mono e)
  | _, _, .dK r => .dK (r.mono e)
  | _, _, .dT k r => .dT k (r.mono e)

structure Stp (B : Addr → Prop) (G H G' H' : Hp) : Prop where
  g : Ex G G'
  t : ∀ a ps, G a = some (.tbl ps) → G' a = some (.tbl ps)
  u : ∀ a ps, G' a = some (.tbl ps) → G a = some (.tbl ps)
  h : ∀ a o, B a → H a = some o → Nt o → H' a = some o
  n : ∀ a o, B a → H a = some o → Ow o → G' a = G a
theorem Stp.refl {B : Addr → Prop} {G H : Hp} : Stp B G H G H := ⟨Ex.refl G, fun _ _ h => h, fun _ _ h => h, fun _ _ _ h _ => h, fun _ _ _ _ _ => rfl⟩
theorem Stp.trans {B : Addr → Prop} {G H G1 H1 G2 H2 : Hp} (a : Stp B G H G1 H1) (b : Stp B G1 H1 G2 H2) : Stp B G H G2 H2 :=
  ⟨a.g.trans b.g, fun x ps h => b.t x ps (a.t x ps h), fun x ps h => a.u x ps (b.u x ps h), fun x o hb h n => b.h x o hb (a.h x o hb h n) n, fun x o hb h w => (b.n x o hb (a.h x o hb h w.nt) w).trans (a.n x o hb h w)⟩
theorem Stp.weak {B B' : Addr → Prop} {G H G1 H1 : Hp} (a : Stp B' G H G1 H1) (w : ∀ x, B x → B' x) : Stp B G H G1 H1 :=
  ⟨a.g, a.t, a.u, fun x o hb h => a.h x o (w x hb) h, fun x o hb => a.n x o (w x hb)⟩
/-- what stands through a def's body: the written part F, the tables T of code objects (with the names of what is made there), and the entry: what must not be changed, the stable part, the heap -/
structure KT where
  F : PySem.W.Frag
  T : List (Addr × Str)
  B0 : Addr → Prop
  G0 : Hp
  H0 : Hp
instance : Coe KT PySem.W.Frag := ⟨KT.F⟩
/-- the same, at another entry -/
abbrev KT.at (K : KT) (B : Addr → Prop) (G H : Hp) : KT := ⟨K.F, K.T, B, G, H⟩
/-- since the entry -/
structure Zt (K : KT) (B : Addr → Prop) (G H : Hp) : Prop where
  b : ∀ a, K.B0 a → B a
  s : Stp K.B0 K.G0 K.H0 G H
  m : ∀ p ∈ K.T, G p.1 = some (.tbl #[Value.str p.2 0])
  m2 : ∀ a ps, G a = some (.tbl ps) → ∃ p ∈ K.T, p.1 = a
theorem Zt.step {K : KT} {B : Addr → Prop} {G H G' H' : Hp} (z : Zt K B G H) (S : Stp B G H G' H') : Zt K B G' H' := ⟨z.b, z.s.trans (S.weak z.b), fun p hp => S.t _ _ (z.m p hp), fun a ps h => z.m2 a ps (S.u a ps h)⟩
theorem Zt.more {K : KT} {B B' : Addr → Prop} {G H : Hp} (z : Zt K B G H) (h : ∀ a, B a → B' a) : Zt K B' G H := ⟨fun a k => h a (z.b a k), z.s, z.m, z.m2⟩
theorem Zt.new {K : KT} {B B' : Addr → Prop} {G H : Hp} (z : Zt K B G H) : Zt (K.at B' G H) B' G H := ⟨fun _ h => h, .refl, z.m, z.m2⟩
/-- the slots, the stable part G of the heap, the heap H; B: what must not be changed -/
structure Rep (K : KT) (B : Addr → Prop) (G H : Hp) (σ : L2.St) (ρ : Sl) : Prop where
  gh : Ex G H
  tb : Tb G H
  z : Zt K B G H
  bh : ∀ a, B a → Tr H a
  len : σ.length = ρ.length
  dat : ∀ (i : Nat) (d : PD), ρ[i]? = some (SD.dat d) → ∃ v, σ[i]? = some (some v) ∧ Rp K G v d
  own : ∀ (i : Nat) (o : OD), ρ[i]? = some (SD.own o) → ∃ p ho, σ[i]? = some (some (V.ref p)) ∧ H p = some ho ∧ G p = none ∧ ¬ B p ∧ RO K G ho o
  sep : ∀ (i j : Nat) (o u : OD) (p : Addr), ρ[i]? = some (SD.own o) → ρ[j]? = some (SD.own u) → σ[i]? = some (some (V.ref p)) → σ[j]? = some (some (V.ref p)) → i = j
/-- a result -/
inductive RR (K : KT) (B : Addr → Prop) (G H : Hp) (σ : L2.St) (ρ : Sl) : V → Rz → Prop
  | dat {v : V} {d : PD} : Rp K G v d → RR K B G H σ ρ v (.dat d)
  | own {p : Addr} {ho : HO} {o : OD} : H p = some ho → G p = none → ¬ B p → RO K G ho o → (∀ (i : Nat) (u : OD), ρ[i]? = some (SD.own u) → σ[i]? ≠ some (some (V.ref p))) → RR K B G H σ ρ (.ref p) (.own o)
  | bor {v : V} {i : Nat} : σ[i]? = some (some v) → RR K B G H σ ρ v (.bor i)

section
variable {K : KT} {B : Addr → Prop} {G H G' H' : Hp} {σ : L2.St} {ρ : Sl}
/-- a thing of one's own at p is made stable -/
theorem Rep.stable {p : Addr} {ho : HO} {o : OD} {d : PD} (r : Rep K B G H σ ρ) (hp : H p = some ho) (hg : G p = none) (hb : ¬ B p) (ro : RO K G ho o) (hd : o.pd = some d)
    (hs : ∀ (i : Nat) (u : OD), ρ[i]? = some (SD.own u) → σ[i]? ≠ some (some (V.ref p))) : Rep K B (upd G p ho) H σ ρ ∧ Rp K (upd G p ho) (V.ref p) d ∧ Stp B G H (upd G p ho) H := by
  have e : Ex G (upd G p ho) := Ex.new hg
  have nt : Nt ho := ro.nt
  have S : Stp B G H (upd G p ho) H := ⟨e, fun a ps h => by rw [upd_ne (ne_of_none h hg)]; exact h, fun a ps h => mark_old nt h, fun _ _ _ h _ => h, fun a _ hb' _ _ => upd_ne fun z => hb (z ▸ hb')⟩
  refine ⟨⟨fun a u h n => ?_, r.tb.mark nt, r.z.step S, r.bh, r.len, fun i d h => ?_, fun i o h => ?_, r.sep⟩, ?_, S⟩
  · by_cases z : a = p
    · subst z; rw [upd_same] at h; cases h; exact hp
    · rw [upd_ne z] at h; exact r.gh a u h n
  · obtain ⟨v, h1, h2⟩ := r.dat i d h
    exact ⟨v, h1, h2.mono e⟩
  · obtain ⟨q, hq, h1, h2, h3, h4, h5⟩ := r.own i o h
    refine ⟨q, hq, h1, h2, ?_, h4, h5.mono e⟩
    rw [upd_ne (fun z => hs i o h (by rw [h1, z]))]; exact h3
  · cases ro with
    | lst q => cases hd; exact .lst upd_same (q.mono e)
    | dK q => cases hd; exact .dct upd_same (q.mono e)
    | dT _ _ => cases hd
/-- the slot i, that holds a thing of its own, is made stable -/
theorem Rep.freeze {i : Nat} {o : OD} {d : PD} (r : Rep K B G H σ ρ) (hi : ρ[i]? = some (SD.own o)) (hd : o.pd = some d) :
    ∃ v G', σ[i]? = some (some v) ∧ Rep K B G' H σ (ρ.set i (SD.dat d)) ∧ Rp K G' v d ∧ Stp B G H G' H := by
  obtain ⟨p, ho, h1, h2, h3, h4, h5⟩ := r.own i o hi
  have hil : i < ρ.length := (List.getElem?_eq_some_iff.mp hi).1
  have get : ∀ j, j ≠ i → (ρ.set i (SD.dat d))[j]? = ρ[j]? := fun j hj => List.getElem?_set_ne (Ne.symm hj)
  have r1 : Rep K B G H σ (ρ.set i SD.emp) := by
    refine ⟨r.gh, r.tb, r.z, r.bh, by rw [List.length_set]; exact r.len, fun j d' h => ?_, fun j o' h => ?_, fun j k o' u q a b c d' => ?_⟩
    · by_cases z : j = i
      · subst z; rw [List.getElem?_set_self hil] at h; cases h
      · rw [List.getElem?_set_ne (Ne.symm z)] at h; exact r.dat j d' h
    · by_cases z : j = i
      · subst z; rw [List.getElem?_set_self hil] at h; cases h
      · rw [List.getElem?_set_ne (Ne.symm z)] at h; exact r.own j o' h
    · by_cases z : j = i
      · subst z; rw [List.getElem?_set_self hil] at a; cases a
      · by_cases z' : k = i
        · subst z'; rw [List.getElem?_set_self hil] at b; cases b
        · rw [List.getElem?_set_ne (Ne.symm z)] at a
          rw [List.getElem?_set_ne (Ne.symm z')] at b
          exact r.sep j k o' u q a b c d'
  obtain ⟨a, b, c⟩ := r1.stable h2 h3 h4 h5 hd (fun j u hj hz => by
    by_cases z : j = i
    · subst z; rw [List.getElem?_set_self hil] at hj; cases hj
    · rw [List.getElem?_set_ne (Ne.symm z)] at hj
      exact z (r.sep j i u o p hj hi hz h1))
  refine ⟨.ref p, _, h1, ⟨a.gh, a.tb, a.z, a.bh, by rw [List.length_set]; exact r.len, fun j d' h => ?_, fun j o' h => ?_, fun j k o' u q x y z w => ?_⟩, b, c⟩
  · by_cases z : j = i
    · subst z; rw [List.getElem?_set_self hil] at h; cases h; exact ⟨_, h1, b⟩
    · rw [List.getElem?_set_ne (Ne.symm z)] at h
      exact a.dat j d' (by rw [List.getElem?_set_ne (Ne.symm z)]; exact h)
  · by_cases z : j = i
    · subst z; rw [List.getElem?_set_self hil] at h; cases h
    · rw [List.getElem?_set_ne (Ne.symm z)] at h
      exact a.own j o' (by rw [List.getElem?_set_ne (Ne.symm z)]; exact h)
  · by_cases z1 : j = i
    · subst z1; rw [List.getElem?_set_self hil] at x; cases x
    · by_cases z2 : k = i
      · subst z2; rw [List.getElem?_set_self hil] at y; cases y
      · rw [List.getElem?_set_ne (Ne.symm z1)] at x
        rw [List.getElem?_set_ne (Ne.symm z2)] at y
        exact r.sep j k o' u q x y z w
end
/-- an exception's way out: the class, the value -/
abbrev Xp := Addr → PD → Prop
def noX : Xp := fun _ _ => False
/-- how what is wanted of data (Ξ) makes what is wanted of the machine (W), of an exception that leaves behind the entry B0, G0, H0 -/
def Lk (KF : PySem.W.Frag) (B0 : Addr → Prop) (G0 H0 : Hp) (Ξ : Xp) (W : WX) : Prop := ∀ (G H : Hp) (σ : L2.St) (C d : Addr) (fs : List (Str × V)) (v : V) (u : PD), Stp B0 G0 H0 G H → (∀ a, B0 a → Tr H a) → Tb G H → Ex G H → H d = some (.xd fs) → G d = some (.xd fs) → fs.lookup ("value" : Str) = some v → Rp KF G v u → Ξ C u → W (.ref C) (some d) σ H
theorem lk_no {KF : PySem.W.Frag} {B0 : Addr → Prop} {G0 H0 : Hp} {W : WX} : Lk KF B0 G0 H0 noX W := fun _ _ _ _ _ _ _ _ _ _ _ _ _ _ _ _ h => h.elim
/-- the context, with what stands through it and what is wanted of an exception that leaves it -/
structure CxT where
  cx : Cx
  T : List (Addr × Str)
  B0 : Addr → Prop
  G0 : Hp
  H0 : Hp
  Ξ : Xp
  W : WX
  po : PassesOwn (model cx.prog cx.w) cx.A cx.env cx.xe
  tk : Takes cx W
  lk : Lk cx.K B0 G0 H0 Ξ W
instance : Coe CxT Cx := ⟨CxT.cx⟩
namespace CxT
variable (X : CxT)
abbrev K : KT := ⟨X.cx.K, X.T, X.B0, X.G0, X.H0⟩
abbrev prog : Program := X.cx.prog
abbrev w : World := X.cx.w
abbrev mg : Str → Option Value := X.cx.mg
abbrev base : Heap := X.cx.base
abbrev A : Around := X.cx.A
abbrev N : List Str := X.cx.N
abbrev s_0 : Shared := X.cx.s_0
abbrev H_0 : Hp := X.cx.H_0
abbrev env : PySem.Env := X.cx.env
abbrev stack : List PySem.Env := X.cx.stack
abbrev fn : Str → Bool := X.cx.fn
abbrev fs : List Addr := X.cx.fs
abbrev ex : List Addr := X.cx.ex
abbrev outer : List PySem.Env := X.cx.outer
abbrev calm : Bool := X.cx.calm
abbrev xe : Value → Shared → Prop := X.cx.xe
/-- a comprehension's block -/
abbrev blk (s : Shared) (H : Hp) (scope : Scope) (cenv : PySem.Env) (fp : List Addr) : CxT :=
  ⟨X.cx.blk s H scope cenv fp, X.T, X.B0, X.G0, X.H0, noX, fun _ _ _ _ => False, PassesOwn.never, takes0, lk_no⟩
end CxT
end DL

set_option Elab.async false
set_option linter.all false
set_option maxRecDepth 100000
set_option maxHeartbeats 2000000
namespace DL
open PySem L2

abbrev We := Sl → (Rz → Sl → Prop) → Prop
abbrev Wt := Sl → (Bool → Sl → Prop) → Prop
abbrev Wa := Sl → (List Rz → Sl → Prop) → Prop

def WE (K : KT) (te : TE) (w : We) : Prop := ∀ (B : Addr → Prop) (G H : Hp) (σ : L2.St) (ρ : Sl) (Q : Rz → Sl → Prop) (QV : VK), Rep K B G H σ ρ → w ρ Q →
  (∀ v G' H' ρ' r, Stp B G H G' H' → Rep K B G' H' σ ρ' → RR K B G' H' σ ρ' v r → Q r ρ' → QV v H') → te σ H QV
def WTt (K : KT) (tt : TT) (w : Wt) : Prop := ∀ (B : Addr → Prop) (G H : Hp) (σ : L2.St) (ρ : Sl) (Q : Bool → Sl → Prop) (QV : Bool → Hp → Prop), Rep K B G H σ ρ → w ρ Q →
  (∀ b G' H' ρ', Stp B G H G' H' → Rep K B G' H' σ ρ' → Q b ρ' → QV b H') → tt σ H QV
/-- a result that stays as it is while others are reckoned -/
def Rz.cold : Rz → Bool
  | .own _ => false
  | _ => true
inductive RRs (K : KT) (B : Addr → Prop) (G H : Hp) (σ : L2.St) (ρ : Sl) : List V → List Rz → Prop
  | nil : RRs K B G H σ ρ [] []
  | cons {v : V} {vs : List V} {r : Rz} {rs : List Rz} : RR K B G H σ ρ v r → r.cold = true → RRs K B G H σ ρ vs rs → RRs K B G H σ ρ (v :: vs) (r :: rs)
def WAa (K : KT) (ta : TA) (w : Wa) : Prop := ∀ (B : Addr → Prop) (G H : Hp) (σ : L2.St) (ρ : Sl) (Q : List Rz → Sl → Prop) (QV : List V → Hp → Prop), Rep K B G H σ ρ → w ρ Q →
  (∀ vs G' H' ρ' rs, Stp B G H G' H' → Rep K B G' H' σ ρ' → RRs K B G' H' σ ρ' vs rs → Q rs ρ' → QV vs H') → ta σ H QV
structure DE (X : CxT) (e : Expr) (te : TE) (w : We) : Prop where
  pe : PE X e te
  we : WE X.K te w
structure DT (X : CxT) (e : Expr) (tt : TT) (w : Wt) : Prop where
  pt : PT X e tt
  wt : WTt X.K tt w
structure DA (X : CxT) (es : List Expr) (ta : TA) (w : Wa) : Prop where
  pa : PA X es ta
  wa : WAa X.K ta w

/-! ### a result, read -/
def SD.pd : SD → Option PD
  | .emp => none
  | .dat d => some d
  | .own o => o.pd
def Rz.pd (r : Rz) (ρ : Sl) : Option PD := match r with
  | .dat d => some d
  | .own o => o.pd
  | .bor i => (ρ[i]?).bind SD.pd
def ok {α : Type} (o : Option α) (k : α → Prop) : Prop := match o with
  | some a => k a
  | none => False
def look (r : Rz) (ρ : Sl) (k : PD → Prop) : Prop := ok (r.pd ρ) k
/-- a result, frozen: a temporary becomes a datum -/
def Rz.cool : Rz → Rz
  | .own o => match o.pd with
    | some d => .dat d
    | none => .dat .non
  | r => r
/-- how a value is seen: a datum, or a thing that may change as it stands now -/
def Vw (K : KT) (G H : Hp) (v : V) (d : PD) : Prop := Rp K G v d ∨ ∃ p ho o, v = .ref p ∧ H p = some ho ∧ RO K G ho o ∧ o.pd = some d

theorem ok_some {α : Type} {o : Option α} {k : α → Prop} (h : ok o k) : ∃ a, o = some a ∧ k a := by
  cases o with
  | none => exact h.elim
  | some a => exact ⟨a, rfl, h⟩
section
variable {K : KT} {B : Addr → Prop} {G H G' H' : Hp} {σ : L2.St} {ρ ρ' : Sl} {v : V} {r : Rz} {d : PD}
theorem RR.vw (R : Rep K B G H σ ρ) (h : RR K B G H σ ρ v r) (e : r.pd ρ = some d) : Vw K G H v d := by
  cases h with
  | dat q => cases e; exact .inl q
  | own h1 h2 h3 h4 h5 => exact .inr ⟨_, _, _, rfl, h1, h4, e⟩
  | bor q =>
    rename_i i
    have e : (ρ[i]?).bind SD.pd = some d := e
    cases hi : ρ[i]? with
    | none => rw [hi] at e; cases e
    | some s =>
      rw [hi] at e
      cases s with
      | emp => cases e
      | dat d' =>
        obtain ⟨w, h1, h2⟩ := R.dat _ _ hi
        rw [q] at h1; cases h1
        cases e
        exact .inl h2
      | own o =>
        obtain ⟨p, ho, h1, h2, h3, h4, h5⟩ := R.own _ _ hi
        rw [q] at h1; cases h1
        exact .inr ⟨p, ho, o, rfl, h2, h5, e⟩
theorem RR.cool (R : Rep K B G H σ ρ) (h : RR K B G H σ ρ v r) (hd : r.cold = true ∨ ∃ d, r.pd ρ = some d) : ∃ G1, Stp B G H G1 H ∧ Rep K B G1 H σ ρ ∧ RR K B G1 H σ ρ v r.cool ∧ r.cool.cold = true ∧ ∀ ρ1, r.cool.pd ρ1 = r.pd ρ1 := by
  cases h with
  | dat q => exact ⟨G, .refl, R, .dat q, rfl, fun _ => rfl⟩
  | bor q => exact ⟨G, .refl, R, .bor q, rfl, fun _ => rfl⟩
  | own h1 h2 h3 h4 h5 =>
    rename_i p ho o
    obtain ⟨d, e⟩ : ∃ d, o.pd = some d := by
      rcases hd with z | ⟨d, z⟩
      · cases z
      · exact ⟨d, z⟩
    obtain ⟨a, b, c⟩ := R.stable h1 h2 h3 h4 e h5
    have ec : (Rz.own o).cool = .dat d := by show (match o.pd with | some d => Rz.dat d | none => .dat .non) = _; rw [e]
    rw [ec]
    exact ⟨_, c, a, .dat b, rfl, fun _ => e.symm⟩
theorem RR.stay (h : RR K B G H σ ρ v r) (hc : r.cold = true) (e : Ex G G') : RR K B G' H' σ ρ' v r := by
  cases h with
  | dat q => exact .dat (q.mono e)
  | bor q => exact .bor q
  | own => cases hc
theorem RRs.stay : ∀ {vs : List V} {rs : List Rz}, RRs K B G H σ ρ vs rs → Ex G G' → RRs K B G' H' σ ρ' vs rs
  | _, _, .nil, _ => .nil
  | _, _, .cons h c t, e => .cons (h.stay c e) c (RRs.stay t e)
end

/-! ### names, constants -/
section
variable {X : CxT} {K : KT}
def wVar (i : Nat) : We := fun ρ Q => match ρ[i]? with
  | some (.dat d) => Q (.dat d) ρ
  | some (.own _) => Q (.bor i) ρ
  | _ => False
theorem we_var {i : Nat} : WE K (tVar i) (wVar i) := fun B G H σ ρ Q QV R h k => by
  unfold wVar at h
  cases hi : ρ[i]? with
  | none => rw [hi] at h; exact h.elim
  | some s =>
    rw [hi] at h
    cases s with
    | emp => exact h.elim
    | dat d =>
      obtain ⟨v, h1, h2⟩ := R.dat _ _ hi
      exact ⟨v, h1, k v G H ρ _ .refl R (.dat h2) h⟩
    | own o =>
      obtain ⟨p, ho, h1, _⟩ := R.own _ _ hi
      exact ⟨_, h1, k _ G H ρ _ .refl R (.bor h1) h⟩
def wC (d : PD) : We := fun ρ Q => Q (.dat d) ρ
theorem we_c {v : V} {d : PD} (h : ∀ G, Rp K G v d) : WE K (tC v) (wC d) := fun B G H σ ρ Q QV R q k => k v G H ρ _ .refl R (.dat (h G)) q
theorem de_int {i j pos} : DE X (.Constant (.int i) j pos) (tC (.int i)) (wC (.int i)) := ⟨pe_int, we_c fun _ => .int i⟩
theorem de_bl {b j pos} : DE X (.Constant (.bool b) j pos) (tC (.bl b)) (wC (.bl b)) := ⟨pe_bl, we_c fun _ => .bl b⟩
theorem de_non {j pos} : DE X (.Constant .none j pos) (tC .non) (wC .non) := ⟨pe_non, we_c fun _ => .non⟩
theorem de_str {x j pos} : DE X (.Constant (.str x) j pos) (tC (.str x)) (wC (.str x)) := ⟨pe_str, we_c fun _ => .str x⟩
theorem dv (i : Nat) {x : Str} {pos : Pos} (hN : X.N[i]? = some x := by rfl) (hv : Vis X.env.scope x := by first | exact Or.inl rfl | exact Or.inr (Or.inl rfl) | exact Or.inr (Or.inr rfl)) (hd : (x == ("__debug__" : Str)) = false := by decide)
    (hcd : (x == ("__classdict__" : Str)) = false := by decide) : DE X (.Name x pos) (tVar i) (wVar i) := ⟨pe_var hN hv hd hcd, we_var⟩
/-! ### two operands, one operand -/
/-- what an operation asks of two data, and what it gives -/
abbrev D2 := PD → PD → (Rz → Prop) → Prop
abbrev D1 := PD → (Rz → Prop) → Prop
abbrev Dn := List PD → (Rz → Prop) → Prop
def Gv (K : KT) (B : Addr → Prop) (G H : Hp) (σ : L2.St) (ρ : Sl) (Q : Rz → Prop) (QV : VK) : Prop :=
  ∀ v G' H' r, Stp B G H G' H' → Rep K B G' H' σ ρ → RR K B G' H' σ ρ v r → Q r → QV v H'
def Ok2 (K : KT) (r : R2) (D : D2) : Prop := ∀ (B : Addr → Prop) (G H : Hp) (σ : L2.St) (ρ : Sl) (x y : V) (dx dy : PD) (Q : Rz → Prop) (QV : VK),
  Rep K B G H σ ρ → Vw K G H x dx → Vw K G H y dy → D dx dy Q → Gv K B G H σ ρ Q QV → r x y H QV
def Ok1 (K : KT) (r : V → Hp → VK → Prop) (D : D1) : Prop := ∀ (B : Addr → Prop) (G H : Hp) (σ : L2.St) (ρ : Sl) (x : V) (dx : PD) (Q : Rz → Prop) (QV : VK),
  Rep K B G H σ ρ → Vw K G H x dx → D dx Q → Gv K B G H σ ρ Q QV → r x H QV
def wBin (D : D2) (wa wb : We) : We := fun ρ Q => wa ρ fun ra ρ1 => (ra.cold = true ∨ ∃ d, ra.pd ρ1 = some d) ∧ wb ρ1 fun rb ρ2 => look ra ρ2 fun x => look rb ρ2 fun y => D x y fun r => Q r ρ2
def wUn (D : D1) (wa : We) : We := fun ρ Q => wa ρ fun ra ρ1 => look ra ρ1 fun x => D x fun r => Q r ρ1
theorem we_bin {r : R2} {D : D2} {ta tb : TE} {wa wb : We} (h : Ok2 K r D) (ha : WE K ta wa) (hb : WE K tb wb) : WE K (tOp r ta tb) (wBin D wa wb) := fun B G H σ ρ Q QV R q k => by
  refine ha B G H σ ρ _ _ R q fun v G1 H1 ρ1 ra S1 R1 rr1 ⟨c1, q1⟩ => ?_
  obtain ⟨G1', S1', R1', rr1', cc, ec⟩ := rr1.cool R1 c1
  refine hb B G1' H1 σ ρ1 _ _ R1' q1 fun u G2 H2 ρ2 rb S2 R2 rr2 q2 => ?_
  obtain ⟨x, ex, q2⟩ := ok_some q2
  obtain ⟨y, ey, q2⟩ := ok_some q2
  refine h B G2 H2 σ ρ2 v u x y (fun r => Q r ρ2) QV R2 ((rr1'.stay cc S2.g).vw R2 ((ec ρ2).trans ex)) (rr2.vw R2 ey) q2 fun w G3 H3 res S3 R3 rr3 q3 => ?_
  exact k w G3 H3 ρ2 res (((S1.trans S1').trans S2).trans S3) R3 rr3 q3
theorem we_un {r : V → Hp → VK → Prop} {D : D1} {ta : TE} {wa : We} (h : Ok1 K r D) (ha : WE K ta wa) : WE K (tUn r ta) (wUn D wa) := fun B G H σ ρ Q QV R q k => by
  refine ha B G H σ ρ _ _ R q fun v G1 H1 ρ1 ra S1 R1 rr1 q1 => ?_
  obtain ⟨x, ex, q1⟩ := ok_some q1
  refine h B G1 H1 σ ρ1 v x (fun r => Q r ρ1) QV R1 (rr1.vw R1 ex) q1 fun w G3 H3 res S3 R3 rr3 q3 => ?_
  exact k w G3 H3 ρ1 res (S1.trans S3) R3 rr3 q3
theorem Gv.dat {B : Addr → Prop} {G H : Hp} {σ : L2.St} {ρ : Sl} {Q : Rz → Prop} {QV : VK} (k : Gv K B G H σ ρ Q QV) (R : Rep K B G H σ ρ) {v : V} {d : PD} (h : Rp K G v d) (q : Q (.dat d)) : QV v H :=
  k v G H _ .refl R (.dat h) q
theorem nb_ne {B : Addr → Prop} {p a : Addr} (nb : ¬ B p) (hb : B a) : a ≠ p := fun z => nb (z ▸ hb)
/-- a new thing -/
theorem Gv.new {B : Addr → Prop} {G H : Hp} {σ : L2.St} {ρ : Sl} {Q : Rz → Prop} {QV : VK} (k : Gv K B G H σ ρ Q QV) (R : Rep K B G H σ ρ) {p : Addr} (hp : H p = none) {ho : HO} {o : OD} (h : RO K G ho o) (q : Q (.own o)) : QV (.ref p) (upd H p ho) := by
  have gp : G p = none := R.gh.free R.tb hp
  have nb : ¬ B p := fun z => (R.bh p z).no hp
  have S1 : Stp B G H G (upd H p ho) := ⟨Ex.refl G, fun _ _ h => h, fun _ _ h => h, fun a o hb h _ => by rw [upd_ne (nb_ne nb hb)]; exact h, fun _ _ _ _ _ => rfl⟩
  have R1 : Rep K B G (upd H p ho) σ ρ := by
    refine ⟨R.gh.right gp, R.tb.new hp, R.z.step S1, fun a hb => ?_, R.len, R.dat, fun i u hi => ?_, R.sep⟩
    · exact (R.bh a hb).upd (nb_ne nb hb)
    · obtain ⟨q, hq, h1, h2, h3, h4, h5⟩ := R.own i u hi
      exact ⟨q, hq, h1, by rw [upd_ne (ne_of_none h2 hp)]; exact h2, h3, h4, h5⟩
  refine k (.ref p) G (upd H p ho) _ S1 R1 (.own upd_same gp nb h fun i u hi hz => ?_) q
  · obtain ⟨q, hq, h1, h2, _⟩ := R.own i u hi
    rw [h1] at hz
    cases hz
    rw [hp] at h2; cases h2
/-- a new tuple: a datum at once -/
theorem Gv.tup {B : Addr → Prop} {G H : Hp} {σ : L2.St} {ρ : Sl} {Q : Rz → Prop} {QV : VK} (k : Gv K B G H σ ρ Q QV) (R : Rep K B G H σ ρ) {p : Addr} (hp : H p = none) {xs : List V} {ds : List PD} (h : RpAll K G xs ds) (q : Q (.dat (.tup ds))) : QV (.ref p) (upd H p (.tup xs)) := by
  have gp : G p = none := R.gh.free R.tb hp
  have nb : ¬ B p := fun z => (R.bh p z).no hp
  have e : Ex G (upd G p (.tup xs)) := Ex.new gp
  have S1 : Stp B G H (upd G p (.tup xs)) (upd H p (.tup xs)) := ⟨e, fun a ps h => by rw [upd_ne (ne_of_none h gp)]; exact h, fun a ps h => mark_old nt_tup h, fun a o hb h _ => by rw [upd_ne (nb_ne nb hb)]; exact h, fun a _ hb _ _ => upd_ne (nb_ne nb hb)⟩
  have R1 : Rep K B (upd G p (.tup xs)) (upd H p (.tup xs)) σ ρ := by
    refine ⟨R.gh.both gp, (R.tb.new hp).mark nt_tup, R.z.step S1, fun a hb => ?_, R.len, fun i d hi => ?_, fun i u hi => ?_, R.sep⟩
    · exact (R.bh a hb).upd (nb_ne nb hb)
    · obtain ⟨v, h1, h2⟩ := R.dat i d hi
      exact ⟨v, h1, h2.mono e⟩
    · obtain ⟨q, hq, h1, h2, h3, h4, h5⟩ := R.own i u hi
      have z := ne_of_none h2 hp
      exact ⟨q, hq, h1, by rw [upd_ne z]; exact h2, by rw [upd_ne z]; exact h3, h4, h5.mono e⟩
  exact k (.ref p) _ _ _ S1 R1 (.dat (.tup (Or.inl (Or.inl upd_same)) (h.mono e))) q

/-! ### what a seen value is -/
section
variable {G H : Hp} {v : V}
theorem Vw.int {i : Int} (h : Vw K G H v (.int i)) : v = .int i := by
  rcases h with h | ⟨p, ho, o, rfl, h1, h2, h3⟩
  · cases h; rfl
  · cases h2 <;> cases h3
theorem Vw.bl {b : Bool} (h : Vw K G H v (.bl b)) : v = .bl b := by
  rcases h with h | ⟨p, ho, o, rfl, h1, h2, h3⟩
  · cases h; rfl
  · cases h2 <;> cases h3
theorem Vw.non (h : Vw K G H v .non) : v = .non := by
  rcases h with h | ⟨p, ho, o, rfl, h1, h2, h3⟩
  · cases h; rfl
  · cases h2 <;> cases h3
theorem Vw.str {x : Str} (h : Vw K G H v (.str x)) : v = .str x := by
  rcases h with h | ⟨p, ho, o, rfl, h1, h2, h3⟩
  · cases h; rfl
  · cases h2 <;> cases h3
theorem Vw.lst {ds : List PD} (e : Ex G H) (h : Vw K G H v (.lst ds)) : ∃ a xs, v = .ref a ∧ H a = some (.lst xs) ∧ RpAll K G xs ds := by
  rcases h with h | ⟨p, ho, o, rfl, h1, h2, h3⟩
  · cases h with
    | lst s r => exact ⟨_, _, rfl, e _ _ s nt_lst, r⟩
  · cases h2 with
    | lst r => cases h3; exact ⟨p, _, rfl, h1, r⟩
    | dK r => cases h3
    | dT _ _ => cases h3
theorem Vw.scr {ns : List Int} (e : Ex G H) (h : Vw K G H v (.scr ns)) : ∃ a, v = .ref a ∧ SqL K H a (ns.map V.int) := by
  rcases h with h | ⟨p, ho, o, rfl, h1, h2, h3⟩
  · cases h with
    | scr s => exact ⟨_, rfl, ex_l e s⟩
  · cases h2 <;> cases h3
theorem Vw.tup {ds : List PD} (e : Ex G H) (h : Vw K G H v (.tup ds)) : ∃ a xs, v = .ref a ∧ SqT K H a xs ∧ RpAll K G xs ds := by
  rcases h with h | ⟨p, ho, o, rfl, h1, h2, h3⟩
  · cases h with
    | tup s r => exact ⟨_, _, rfl, ex_t e s, r⟩
  · cases h2 <;> cases h3
end
end
end DL

set_option Elab.async false
set_option linter.all false
set_option maxRecDepth 100000
set_option maxHeartbeats 2000000
namespace DL
open PySem L2
section
variable {X : CxT} {K : KT}
/-! ### arithmetic -/
def rOr (r r' : R2) : R2 := fun x y H Q => r x y H Q ∨ r' x y H Q
theorem or_ok {f : Value → Value → Sem Value} {r r' : R2} (h : OpR X f r) (h' : OpR X f r') : OpR X f (rOr r r') := h.or h'
def dI (C : Int → Int → Prop) (g : Int → Int → PD) : D2 := fun x y k => match x, y with
  | .int i, .int j => C i j ∧ k (.dat (g i j))
  | _, _ => False
theorem ok2_I {C : Int → Int → Prop} {g : Int → Int → V} {gd : Int → Int → PD} (h : ∀ i j G, Rp K G (g i j) (gd i j)) : Ok2 K (rI C g) (dI C gd) := by
  intro B G H σ ρ x y dx dy Q QV R vx vy q k
  cases dx with
  | int i =>
    cases dy with
    | int j =>
      obtain ⟨c, q⟩ := q
      exact ⟨i, j, vx.int, vy.int, c, k.dat R (h i j G) q⟩
    | _ => exact q.elim
  | _ => exact q.elim
def dI0 (g : Int → Int → PD) : D2 := fun x y k => match x, y with
  | .int i, .int j => k (.dat (g i j))
  | _, _ => False
theorem ok2_I0 {g : Int → Int → V} {gd : Int → Int → PD} (h : ∀ i j G, Rp K G (g i j) (gd i j)) : Ok2 K (rI0 g) (dI0 gd) := by
  intro B G H σ ρ x y dx dy Q QV R vx vy q k
  cases dx with
  | int i =>
    cases dy with
    | int j => exact ⟨i, j, vx.int, vy.int, k.dat R (h i j G) q⟩
    | _ => exact q.elim
  | _ => exact q.elim
/-- + -/
def rAddS : R2 := fun x y H Q => ∃ i j, x = .str i ∧ y = .str j ∧ i.length + j.length ≤ sizeLine ∧ Q (.str (i ++ j)) H
def rAdd4 (K : PySem.W.Frag) : R2 := rOr (rI0 fun i j => .int (i + j)) (rOr rAddS (rOr rCat (rCatA K)))
theorem op_add4 : OpR X (binaryOp .Add) (rAdd4 X.K) := or_ok op_add (or_ok op_add_str (or_ok op_cat op_catA))
def dAdd : D2 := fun x y k => match x, y with
  | .int i, .int j => k (.dat (.int (i + j)))
  | .str a, .str b => a.length + b.length ≤ sizeLine ∧ k (.dat (.str (a ++ b)))
  | .lst a, .lst b => a.length + b.length ≤ sizeLine ∧ k (.own (.lst (a ++ b)))
  | .tup a, .tup b => a.length + b.length ≤ sizeLine ∧ k (.dat (.tup (a ++ b)))
  | _, _ => False
theorem Vw.tupR {G H : Hp} {v : V} {ds : List PD} (h : Vw K G H v (.tup ds)) : Rp K G v (.tup ds) := by
  rcases h with h | ⟨p, ho, o, rfl, h1, h2, h3⟩
  · exact h
  · cases h2 <;> cases h3
theorem ok2_add : Ok2 K (rAdd4 K) dAdd := by
  intro B G H σ ρ x y dx dy Q QV R vx vy q k
  cases dx with
  | int i =>
    cases dy with
    | int j => exact .inl ⟨i, j, vx.int, vy.int, k.dat R (.int _) q⟩
    | _ => exact q.elim
  | str a =>
    cases dy with
    | str b => exact .inr (.inl ⟨a, b, vx.str, vy.str, q.1, k.dat R (.str _) q.2⟩)
    | _ => exact q.elim
  | lst a =>
    cases dy with
    | lst b =>
      obtain ⟨p, xs, rfl, hp, rx⟩ := vx.lst R.gh
      obtain ⟨p', ys, rfl, hp', ry⟩ := vy.lst R.gh
      exact .inr (.inr (.inl ⟨p, p', xs, ys, rfl, rfl, hp, hp', by rw [rx.length, ry.length]; exact q.1, fun n hn => k.new R hn (.lst (rx.append ry)) q.2⟩))
    | _ => exact q.elim
  | tup a =>
    cases dy with
    | tup b =>
      have wx := vx.tupR
      have wy := vy.tupR
      obtain ⟨p, xs, rfl, hp, rx⟩ := vx.tup R.gh
      obtain ⟨p', ys, rfl, hp', ry⟩ := vy.tup R.gh
      refine .inr (.inr (.inr ⟨p, p', xs, ys, rfl, rfl, hp, hp', by rw [rx.length, ry.length]; exact q.1, fun e => ?_, fun _ e => ?_, fun _ _ n hn => k.tup R hn (rx.append ry) q.2⟩))
      · subst e
        cases rx
        exact k.dat R wy q.2
      · subst e
        cases ry
        exact k.dat R wx (by have := q.2; rw [List.append_nil] at this; exact this)
    | _ => exact q.elim
  | _ => exact q.elim
/-- ** -/
def CPowX (i j : Int) : Prop := 0 ≤ j ∧ (Builtin.Int.intBits i : Int) * j ≤ 2 ^ 27
theorem op_powX : OpR X (binaryOp .Pow) (rI CPowX fun i j => .int (i ^ j.toNat)) := opI fun _ _ _ _ _ _ _ hc q => PyProof.Rows.pow_int hc.1 hc.2 q

variable {a b : Expr} {ta tb : TE} {wa wb : We} {pos : Pos}
theorem de_add (ha : DE X a ta wa) (hb : DE X b tb wb) : DE X (.BinOp a .Add b pos) (tOp (rAdd4 X.K) ta tb) (wBin dAdd wa wb) := ⟨pe_op op_add4 ha.pe hb.pe, we_bin ok2_add ha.we hb.we⟩
theorem de_sub (ha : DE X a ta wa) (hb : DE X b tb wb) : DE X (.BinOp a .Sub b pos) (tOp (rI0 fun i j => .int (i - j)) ta tb) (wBin (dI0 fun i j => .int (i - j)) wa wb) := ⟨pe_op op_sub ha.pe hb.pe, we_bin (ok2_I0 fun _ _ _ => .int _) ha.we hb.we⟩
theorem de_mul (ha : DE X a ta wa) (hb : DE X b tb wb) : DE X (.BinOp a .Mult b pos) (tOp (rI CMulX fun i j => .int (i * j)) ta tb) (wBin (dI CMulX fun i j => .int (i * j)) wa wb) := ⟨pe_op op_mulX ha.pe hb.pe, we_bin (ok2_I fun _ _ _ => .int _) ha.we hb.we⟩
theorem de_fdiv (ha : DE X a ta wa) (hb : DE X b tb wb) : DE X (.BinOp a .FloorDiv b pos) (tOp (rI CDivW fun i j => .int (i / j)) ta tb) (wBin (dI CDivW fun i j => .int (i / j)) wa wb) := ⟨pe_op op_fdivW ha.pe hb.pe, we_bin (ok2_I fun _ _ _ => .int _) ha.we hb.we⟩
def CPos (_ j : Int) : Prop := 0 < j
theorem de_mod (ha : DE X a ta wa) (hb : DE X b tb wb) : DE X (.BinOp a .Mod b pos) (tOp (rI CPos fun i j => .int (i % j)) ta tb) (wBin (dI CPos fun i j => .int (i % j)) wa wb) := ⟨pe_op op_mod ha.pe hb.pe, we_bin (ok2_I fun _ _ _ => .int _) ha.we hb.we⟩
theorem de_pow (ha : DE X a ta wa) (hb : DE X b tb wb) : DE X (.BinOp a .Pow b pos) (tOp (rI CPowX fun i j => .int (i ^ j.toNat)) ta tb) (wBin (dI CPowX fun i j => .int (i ^ j.toNat)) wa wb) := ⟨pe_op op_powX ha.pe hb.pe, we_bin (ok2_I fun _ _ _ => .int _) ha.we hb.we⟩
def CNn (_ j : Int) : Prop := 0 ≤ j
def dNeg : D1 := fun x k => match x with
  | .int i => k (.dat (.int (-i)))
  | _ => False
theorem ok1_neg : Ok1 K (rU fun i => .int (-i)) dNeg := by
  intro B G H σ ρ x dx Q QV R vx q k
  cases dx with
  | int i => exact ⟨i, vx.int, k.dat R (.int _) q⟩
  | _ => exact q.elim
theorem de_neg (ha : DE X a ta wa) : DE X (.UnaryOp .USub a pos) (tUn (rU fun i => .int (-i)) ta) (wUn dNeg wa) := ⟨pe_un un_neg ha.pe, we_un ok1_neg ha.we⟩
end
end DL

set_option Elab.async false
set_option linter.all false
set_option maxRecDepth 100000
set_option maxHeartbeats 2000000
namespace DL
open PySem L2
/-! ### plain data -/
mutual
def PD.py : PD → PyData
  | .non => .none
  | .bl b => .bool b
  | .int i => .int i
  | .str x => .str x
  | .lst xs => .list (pyAll xs)
  | .tup xs => .tuple (pyAll xs)
  | .scr ns => .list (ns.map .int)
  | .dct _ => .none
  | .ins _ _ => .none
  | .err _ _ => .none
  | .fn _ _ => .none
def pyAll : List PD → List PyData
  | [] => []
  | x :: xs => x.py :: pyAll xs
end
mutual
def PD.plain : PD → Bool
  | .non => true
  | .bl _ => true
  | .int _ => true
  | .str _ => true
  | .lst xs => plainAll xs
  | .tup xs => plainAll xs
  | .scr _ => true
  | .dct _ => false
  | .ins _ _ => false
  | .err _ _ => false
  | .fn _ _ => false
def plainAll : List PD → Bool
  | [] => true
  | x :: xs => x.plain && plainAll xs
end
section
variable {K : KT} {G H : Hp}
theorem dp_ints : ∀ (ns : List Int), DpAll K H (ns.map V.int) (ns.map PyData.int)
  | [] => .nil
  | n :: ns => .cons (.int n) (dp_ints ns)
mutual
theorem Rp.dp (e : Ex G H) : ∀ {v : V} {d : PD}, Rp K G v d → d.plain = true → Dp K H v d.py
  | _, .non, .non, _ => .non
  | _, .bl _, .bl b, _ => .bl b
  | _, .int _, .int i, _ => .int i
  | _, .str _, .str x, _ => .str x
  | _, .lst ds, .lst h r, p => .lst (SqL.of (e _ _ h nt_lst)) (RpAll.dp e r p)
  | _, .tup ds, .tup h r, p => .tup (ex_t e h) (RpAll.dp e r p)
  | _, .scr ns, .scr h, _ => .lst (ex_l e h) (dp_ints ns)
theorem RpAll.dp (e : Ex G H) : ∀ {vs : List V} {ds : List PD}, RpAll K G vs ds → plainAll ds = true → DpAll K H vs (pyAll ds)
  | _, [], .nil, _ => .nil
  | _, d :: ds, .cons h r, p => .cons (Rp.dp e h (Bool.and_eq_true_iff.mp p).1) (RpAll.dp e r (Bool.and_eq_true_iff.mp p).2)
end
theorem Vw.dp (e : Ex G H) {v : V} {d : PD} (h : Vw K G H v d) (p : d.plain = true) : Dp K H v d.py := by
  rcases h with h | ⟨q, ho, o, rfl, h1, h2, h3⟩
  · exact h.dp e p
  · cases h2 with
    | lst r => cases h3; exact .lst (SqL.of h1) (r.dp e p)
    | dK r => cases h3; cases p
    | dT _ _ => cases h3
end
section
variable {X : CxT} {K : KT}
/-- data that may be compared -/
def cmpOk (x : PD) : Prop := x.plain = true ∧ SeqAt.shaped x.py = true
def dEq : D2 := fun x y k => cmpOk x ∧ cmpOk y ∧ k (.dat (.bl (PyData.eqv x.py y.py)))
def dNe : D2 := fun x y k => cmpOk x ∧ cmpOk y ∧ k (.dat (.bl (!PyData.eqv x.py y.py)))
theorem ok2_eq : Ok2 K (rEqD K) dEq := by
  intro B G H σ ρ x y dx dy Q QV R vx vy q k
  obtain ⟨⟨p1, s1⟩, ⟨p2, s2⟩, q⟩ := q
  exact ⟨_, _, vx.dp R.gh p1, vy.dp R.gh p2, s1, s2, k.dat R (.bl _) q⟩
theorem ok2_ne : Ok2 K (rNeD K) dNe := by
  intro B G H σ ρ x y dx dy Q QV R vx vy q k
  obtain ⟨⟨p1, s1⟩, ⟨p2, s2⟩, q⟩ := q
  exact ⟨_, _, vx.dp R.gh p1, vy.dp R.gh p2, s1, s2, k.dat R (.bl _) q⟩
/-- is None -/
def PD.isN : PD → Bool
  | .non => true
  | _ => false
def dIsN : D2 := fun x y k => match y with
  | .non => k (.dat (.bl x.isN))
  | _ => False
def dNotN : D2 := fun x y k => match y with
  | .non => k (.dat (.bl (!x.isN)))
  | _ => False
def rIsN : R2 := fun x y H Q => y = .non ∧ Q (.bl (decide (x = .non))) H
def rNotN : R2 := fun x y H Q => y = .non ∧ Q (.bl (!decide (x = .non))) H
theorem vw_isN {G H : Hp} {v : V} {d : PD} (h : Vw K G H v d) : decide (v = .non) = d.isN := by
  rcases h with h | ⟨q, ho, o, rfl, h1, h2, h3⟩
  · cases h <;> rfl
  · cases h2 <;> cases h3 <;> rfl
theorem ok2_isN : Ok2 K rIsN dIsN := by
  intro B G H σ ρ x y dx dy Q QV R vx vy q k
  cases dy with
  | non =>
    refine ⟨vy.non, ?_⟩
    rw [vw_isN vx]
    exact k.dat R (.bl _) q
  | _ => exact q.elim
theorem ok2_notN : Ok2 K rNotN dNotN := by
  intro B G H σ ρ x y dx dy Q QV R vx vy q k
  cases dy with
  | non =>
    refine ⟨vy.non, ?_⟩
    rw [vw_isN vx]
    exact k.dat R (.bl _) q
  | _ => exact q.elim
/-- x in (a, b, ..), x in [a, b, ..], of ints, bools, texts, None -/
def PD.flat : PD → Bool
  | .non => true
  | .bl _ => true
  | .int _ => true
  | .str _ => true
  | _ => false
def dInAt (neg : Bool) (x : PD) (ys : List PD) (k : Rz → Prop) : Prop := x.flat = true ∧ ys.all PD.flat = true ∧ k (.dat (.bl (if neg then !(ys.any fun y => PyData.eqv y.py x.py) else ys.any fun y => PyData.eqv y.py x.py)))
def dIn (neg : Bool) : D2 := fun x y k => match y with
  | .lst ys => dInAt neg x ys k
  | .tup ys => dInAt neg x ys k
  | _ => False
theorem flat_of {G : Hp} {v : V} {d : PD} (h : Rp K G v d) (f : d.flat = true) : flatV v = true := by
  cases h <;> first | rfl | (cases f; done)
theorem flat_vw {G H : Hp} {v : V} {d : PD} (h : Vw K G H v d) (f : d.flat = true) : Rp K G v d := by
  rcases h with h | ⟨q, ho, o, rfl, h1, h2, h3⟩
  · exact h
  · cases h2 <;> cases h3 <;> cases f
theorem eqV_py {G : Hp} {v w : V} {d e : PD} (h : Rp K G v d) (h' : Rp K G w e) (f : d.flat = true) (f' : e.flat = true) : eqV v w = PyData.eqv d.py e.py := by
  cases h <;> first | (cases f; done) | skip
  all_goals cases h' <;> first | (cases f'; done) | skip
  all_goals first | rfl | (simp only [eqV, PyData.eqv, PD.py]; done) | (simp only [eqV, PyData.eqv, PD.py]; rfl)
theorem flats_of {G : Hp} : ∀ {vs : List V} {ds : List PD}, RpAll K G vs ds → ds.all PD.flat = true → vs.all flatV = true
  | _, _, .nil, _ => rfl
  | _, _, .cons h r, f => by
    rw [List.all_cons, Bool.and_eq_true] at f ⊢
    exact ⟨flat_of h f.1, flats_of r f.2⟩
theorem inV_py {G : Hp} {x : V} {dx : PD} (hx : Rp K G x dx) (fx : dx.flat = true) : ∀ {vs : List V} {ds : List PD}, RpAll K G vs ds → ds.all PD.flat = true → inV x vs = ds.any fun y => PyData.eqv y.py dx.py
  | _, _, .nil, _ => rfl
  | _, _, .cons h r, f => by
    rw [List.all_cons, Bool.and_eq_true] at f
    have ih := inV_py hx fx r f.2
    unfold inV at ih ⊢
    rw [List.any_cons, List.any_cons, ih, eqV_py h hx f.1 fx]
theorem ok2_in {neg : Bool} : Ok2 K (rIn K neg) (dIn neg) := by
  intro B G H σ ρ x y dx dy Q QV R vx vy q k
  cases dy with
  | lst ys =>
    obtain ⟨f, fs, q⟩ := q
    obtain ⟨a, xs, rfl, ha, rs⟩ := vy.lst R.gh
    have hx := flat_vw vx f
    refine ⟨a, xs, rfl, .inl (SqL.of ha), flat_of hx f, flats_of rs fs, ?_⟩
    rw [inV_py hx f rs fs]
    exact k.dat R (.bl _) q
  | tup ys =>
    obtain ⟨f, fs, q⟩ := q
    obtain ⟨a, xs, rfl, ha, rs⟩ := vy.tup R.gh
    have hx := flat_vw vx f
    refine ⟨a, xs, rfl, .inr ha, flat_of hx f, flats_of rs fs, ?_⟩
    rw [inV_py hx f rs fs]
    exact k.dat R (.bl _) q
  | _ => exact q.elim

/-! ### tests -/
variable {a b c : Expr} {ta tb tc : TE} {wa wb wc : We} {pos : Pos}
/-- a value that is a bool, as a test -/
def wB (w : We) : Wt := fun ρ Q => w ρ fun r ρ1 => match r with
  | .dat (.bl b) => Q b ρ1
  | _ => False
theorem wt_of {te : TE} {w : We} (h : WE K te w) : WTt K (tB te) (wB w) := fun B G H σ ρ Q QV R q k =>
  h B G H σ ρ _ _ R q fun v G1 H1 ρ1 r S1 R1 rr q1 => by
    cases rr with
    | dat z =>
      cases z with
      | bl b => exact ⟨b, rfl, k b G1 H1 ρ1 S1 R1 q1⟩
      | _ => exact q1.elim
    | own => exact q1.elim
    | bor => exact q1.elim
theorem wt_test {te : TE} {w : We} (h : WE K te w) : WTt K (tTest te) (wB w) := wt_of h
theorem dt_val {e : Expr} {t : TE} {w : We} (h : DE X e t w) (he : ∀ whole, isTrue e X.env whole = (do let v ← whole; standAt e.pos; holding [v] (truthy v)) := by intro _; rfl) : DT X e (tB t) (wB w) := ⟨pt_val h.pe he, wt_of h.we⟩
/-- a comparison, as a value and as a test -/
structure DC (X : CxT) (op : CmpOp) (r : R2) (D : D2) : Prop where
  op : OpR X (compareOp op) r
  ok : Ok2 X.K r D
theorem de_cmp {op : CmpOp} {r : R2} {D : D2} (h : DC X op r D) (ha : DE X a ta wa) (hb : DE X b tb wb) (hm : behindInMarks op b = false := by first | exact nomark _ | rfl) : DE X (.Compare a [op] [b] pos) (tOp r ta tb) (wBin D wa wb) := ⟨pe_cmpR h.op ha.pe hb.pe hm, we_bin h.ok ha.we hb.we⟩
theorem dt_cmp {op : CmpOp} {r : R2} {D : D2} (h : DC X op r D) (ha : DE X a ta wa) (hb : DE X b tb wb) (hm : behindInMarks op b = false := by first | exact nomark _ | rfl) : DT X (.Compare a [op] [b] pos) (tTest (tOp r ta tb)) (wB (wBin D wa wb)) := ⟨pt_cmpR h.op ha.pe hb.pe hm, wt_test (we_bin h.ok ha.we hb.we)⟩
theorem dc_lt : DC X .Lt (rI0 fun i j => .bl (decide (i < j))) (dI0 fun i j => .bl (decide (i < j))) := ⟨op_lt, ok2_I0 fun _ _ _ => .bl _⟩
theorem dc_le : DC X .LtE (rI0 fun i j => .bl (decide (i ≤ j))) (dI0 fun i j => .bl (decide (i ≤ j))) := ⟨op_le, ok2_I0 fun _ _ _ => .bl _⟩
theorem dc_gt : DC X .Gt (rI0 fun i j => .bl (decide (j < i))) (dI0 fun i j => .bl (decide (j < i))) := ⟨op_gt, ok2_I0 fun _ _ _ => .bl _⟩
theorem dc_ge : DC X .GtE (rI0 fun i j => .bl (decide (j ≤ i))) (dI0 fun i j => .bl (decide (j ≤ i))) := ⟨op_ge, ok2_I0 fun _ _ _ => .bl _⟩
theorem dc_eq (hu : X.cx.A.units + 64 < cLine) : DC X .Eq (rEqD X.K) dEq := ⟨op_eqD hu, ok2_eq⟩
theorem dc_isN : DC X .Is rIsN dIsN := ⟨op_isN, ok2_isN⟩
theorem dc_notN : DC X .IsNot rNotN dNotN := ⟨op_notN, ok2_notN⟩
theorem dc_in : DC X .In (rIn X.K false) (dIn false) := ⟨op_in_seq, ok2_in⟩
theorem dc_notIn : DC X .NotIn (rIn X.K true) (dIn true) := ⟨op_notIn_seq, ok2_in⟩

/-! ### and, or, not -/
structure DW (X : CxT) (e : Expr) (tt : TT) (w : Wt) : Prop where
  pw : PW X e tt
  wt : WTt X.K tt w
def wAnd (w u : Wt) : Wt := fun ρ Q => w ρ fun b ρ1 => match b with
  | true => u ρ1 Q
  | false => Q false ρ1
def wOr (w u : Wt) : Wt := fun ρ Q => w ρ fun b ρ1 => match b with
  | true => Q true ρ1
  | false => u ρ1 Q
def wNot (w : Wt) : Wt := fun ρ Q => w ρ fun b ρ1 => Q (!b) ρ1
variable {tt tu : TT} {w u : Wt}
theorem wt_and (h : WTt K tt w) (h' : WTt K tu u) : WTt K (tAnd tt tu) (wAnd w u) := fun B G H σ ρ Q QV R q k =>
  h B G H σ ρ _ _ R q fun b G1 H1 ρ1 S1 R1 q1 => by
    cases b with
    | true => rw [if_pos rfl]; exact h' B G1 H1 σ ρ1 Q QV R1 q1 fun b' G2 H2 ρ2 S2 R2 q2 => k b' G2 H2 ρ2 (S1.trans S2) R2 q2
    | false => rw [if_neg Bool.false_ne_true]; exact k false G1 H1 ρ1 S1 R1 q1
theorem wt_or (h : WTt K tt w) (h' : WTt K tu u) : WTt K (tOr tt tu) (wOr w u) := fun B G H σ ρ Q QV R q k =>
  h B G H σ ρ _ _ R q fun b G1 H1 ρ1 S1 R1 q1 => by
    cases b with
    | false => rw [if_neg Bool.false_ne_true]; exact h' B G1 H1 σ ρ1 Q QV R1 q1 fun b' G2 H2 ρ2 S2 R2 q2 => k b' G2 H2 ρ2 (S1.trans S2) R2 q2
    | true => rw [if_pos rfl]; exact k true G1 H1 ρ1 S1 R1 q1
theorem wt_not (h : WTt K tt w) : WTt K (tNot tt) (wNot w) := fun B G H σ ρ Q QV R q k =>
  h B G H σ ρ _ _ R q fun b G1 H1 ρ1 S1 R1 q1 => k (!b) G1 H1 ρ1 S1 R1 q1
variable {rest : List Expr}
theorem dw_and1 (h : DT X a tt w) : DW X (.BoolOp .And [a] pos) tt w := ⟨pw_and1 h.pt, h.wt⟩
theorem dw_or1 (h : DT X a tt w) : DW X (.BoolOp .Or [a] pos) tt w := ⟨pw_or1 h.pt, h.wt⟩
theorem dw_and (h : DT X a tt w) (h' : DW X (.BoolOp .And (b :: rest) pos) tu u) : DW X (.BoolOp .And (a :: b :: rest) pos) (tAnd tt tu) (wAnd w u) := ⟨pw_and h.pt h'.pw, wt_and h.wt h'.wt⟩
theorem dw_or (h : DT X a tt w) (h' : DW X (.BoolOp .Or (b :: rest) pos) tu u) : DW X (.BoolOp .Or (a :: b :: rest) pos) (tOr tt tu) (wOr w u) := ⟨pw_or h.pt h'.pw, wt_or h.wt h'.wt⟩
theorem DW.dt (h : DW X a tt w) : DT X a tt w := ⟨h.pw.pt, h.wt⟩
theorem dt_not (h : DT X a tt w) : DT X (.UnaryOp .Not a pos) (tNot tt) (wNot w) := ⟨pt_not h.pt, wt_not h.wt⟩
/-- .. as values, bools -/
def wAndV (w u : We) : We := fun ρ Q => wB w ρ fun b ρ1 => match b with
  | true => u ρ1 Q
  | false => Q (.dat (.bl false)) ρ1
def wOrV (w u : We) : We := fun ρ Q => wB w ρ fun b ρ1 => match b with
  | true => Q (.dat (.bl true)) ρ1
  | false => u ρ1 Q
def wNotV (w : We) : We := fun ρ Q => wB w ρ fun b ρ1 => Q (.dat (.bl (!b))) ρ1
theorem we_andV (h : WE K ta wa) (h' : WE K tb wb) : WE K (tAndV ta tb) (wAndV wa wb) := fun B G H σ ρ Q QV R q k =>
  wt_of h B G H σ ρ _ (fun c H1 => if c = true then tb σ H1 QV else QV (.bl false) H1) R q fun b G1 H1 ρ1 S1 R1 q1 => by
    cases b with
    | true => rw [if_pos rfl]; exact h' B G1 H1 σ ρ1 Q QV R1 q1 fun v' G2 H2 ρ2 r2 S2 R2 rr q2 => k v' G2 H2 ρ2 r2 (S1.trans S2) R2 rr q2
    | false => rw [if_neg Bool.false_ne_true]; exact k _ G1 H1 ρ1 _ S1 R1 (.dat (.bl false)) q1
theorem we_orV (h : WE K ta wa) (h' : WE K tb wb) : WE K (tOrV ta tb) (wOrV wa wb) := fun B G H σ ρ Q QV R q k =>
  wt_of h B G H σ ρ _ (fun c H1 => if c = true then QV (.bl true) H1 else tb σ H1 QV) R q fun b G1 H1 ρ1 S1 R1 q1 => by
    cases b with
    | false => rw [if_neg Bool.false_ne_true]; exact h' B G1 H1 σ ρ1 Q QV R1 q1 fun v' G2 H2 ρ2 r2 S2 R2 rr q2 => k v' G2 H2 ρ2 r2 (S1.trans S2) R2 rr q2
    | true => rw [if_pos rfl]; exact k _ G1 H1 ρ1 _ S1 R1 (.dat (.bl true)) q1
theorem we_notV (h : WE K ta wa) : WE K (tNotV ta) (wNotV wa) := fun B G H σ ρ Q QV R q k =>
  wt_of h B G H σ ρ _ (fun c H1 => QV (.bl (!c)) H1) R q fun b G1 H1 ρ1 S1 R1 q1 => k _ G1 H1 ρ1 _ S1 R1 (.dat (.bl (!b))) q1
theorem de_one {op} (h : DE X a ta wa) : DE X (.BoolOp op [a] pos) ta wa := ⟨pe_one h.pe, h.we⟩
theorem de_and (ha : DE X a ta wa) (hb : DE X (.BoolOp .And (b :: rest) pos) tb wb) : DE X (.BoolOp .And (a :: b :: rest) pos) (tAndV ta tb) (wAndV wa wb) := ⟨pe_and ha.pe hb.pe, we_andV ha.we hb.we⟩
theorem de_or (ha : DE X a ta wa) (hb : DE X (.BoolOp .Or (b :: rest) pos) tb wb) : DE X (.BoolOp .Or (a :: b :: rest) pos) (tOrV ta tb) (wOrV wa wb) := ⟨pe_or ha.pe hb.pe, we_orV ha.we hb.we⟩
theorem de_not (ha : DE X a ta wa) : DE X (.UnaryOp .Not a pos) (tNotV ta) (wNotV wa) := ⟨pe_not ha.pe, we_notV ha.we⟩
/-- a if t else b -/
def wIf (w : Wt) (wa wb : We) : We := fun ρ Q => w ρ fun b ρ1 => match b with
  | true => wa ρ1 Q
  | false => wb ρ1 Q
theorem we_if (h : WTt K tt w) (h1 : WE K ta wa) (h2 : WE K tb wb) : WE K (tIf tt ta tb) (wIf w wa wb) := fun B G H σ ρ Q QV R q k =>
  h B G H σ ρ _ _ R q fun b G1 H1 ρ1 S1 R1 q1 => by
    cases b with
    | true => rw [if_pos rfl]; exact h1 B G1 H1 σ ρ1 Q QV R1 q1 fun v' G2 H2 ρ2 r2 S2 R2 rr q2 => k v' G2 H2 ρ2 r2 (S1.trans S2) R2 rr q2
    | false => rw [if_neg Bool.false_ne_true]; exact h2 B G1 H1 σ ρ1 Q QV R1 q1 fun v' G2 H2 ρ2 r2 S2 R2 rr q2 => k v' G2 H2 ρ2 r2 (S1.trans S2) R2 rr q2
theorem de_if (hc : DT X c tt w) (ha : DE X a ta wa) (hb : DE X b tb wb) : DE X (.IfExp c a b pos) (tIf tt ta tb) (wIf w wa wb) := ⟨pe_ifExp hc.pt ha.pe hb.pe, we_if hc.wt ha.we hb.we⟩
end
end DL

set_option Elab.async false
set_option linter.all false
set_option maxRecDepth 100000
set_option maxHeartbeats 2000000
namespace DL
open PySem L2
section
variable {X : CxT} {K : KT} {e : Expr} {es : List Expr} {te : TE} {t ta : TA} {we : We} {wr wa : Wa} {pos p : Pos}
/-! ### arguments -/
def wNil : Wa := fun ρ Q => Q [] ρ
def warm (r : Rz) (ρ : Sl) : Prop := r.cold = true ∨ ∃ d, r.pd ρ = some d
def wCons (we : We) (wr : Wa) : Wa := fun ρ Q => we ρ fun r ρ1 => warm r ρ1 ∧ wr ρ1 fun rs ρ2 => Q (r.cool :: rs) ρ2
theorem wa_nil : WAa K tNil wNil := fun B G H σ ρ Q QV R q k => k [] G H ρ [] .refl R .nil q
theorem wa_cons (he : WE K te we) (hr : WAa K t wr) : WAa K (tCons te t) (wCons we wr) := fun B G H σ ρ Q QV R q k =>
  he B G H σ ρ _ _ R q fun v G1 H1 ρ1 r S1 R1 rr ⟨c1, q1⟩ => by
    obtain ⟨G1', S1', R1', rr1', cc, ec⟩ := rr.cool R1 c1
    refine hr B G1' H1 σ ρ1 _ _ R1' q1 fun vs G2 H2 ρ2 rs S2 R2 rrs q2 => ?_
    exact k (v :: vs) G2 H2 ρ2 (r.cool :: rs) ((S1.trans S1').trans S2) R2 (.cons (rr1'.stay cc S2.g) cc rrs) q2
theorem da_nil : DA X [] tNil wNil := ⟨pa_nil, wa_nil⟩
theorem da_cons (he : DE X e te we) (hr : DA X es t wr) (hs : starEach (e :: es) X.env = (false, eval e X.env) :: starEach es X.env := by rfl) : DA X (e :: es) (tCons te t) (wCons we wr) := ⟨pa_cons he.pe hr.pa hs, wa_cons he.we hr.wa⟩
def pdsOf : List Rz → Sl → Option (List PD)
  | [], _ => some []
  | r :: rs, ρ => match r.pd ρ, pdsOf rs ρ with
    | some d, some ds => some (d :: ds)
    | _, _ => none
def looks (rs : List Rz) (ρ : Sl) (k : List PD → Prop) : Prop := ok (pdsOf rs ρ) k
inductive VwAll (K : KT) (G H : Hp) : List V → List PD → Prop
  | nil : VwAll K G H [] []
  | cons {v : V} {vs : List V} {d : PD} {ds : List PD} : Vw K G H v d → VwAll K G H vs ds → VwAll K G H (v :: vs) (d :: ds)
theorem RRs.vw {B : Addr → Prop} {G H : Hp} {σ : L2.St} {ρ : Sl} (R : Rep K B G H σ ρ) : ∀ {vs : List V} {rs : List Rz} {ds : List PD}, RRs K B G H σ ρ vs rs → pdsOf rs ρ = some ds → VwAll K G H vs ds
  | _, _, ds, .nil, h => by cases h; exact .nil
  | _, _, ds, @RRs.cons _ _ _ _ _ _ v vs r rs h1 hc hr, h => by
    unfold pdsOf at h
    cases e1 : r.pd ρ with
    | none => rw [e1] at h; cases h
    | some d =>
      cases e2 : pdsOf rs ρ with
      | none => rw [e1, e2] at h; cases h
      | some ds' =>
        rw [e1, e2] at h
        cases h
        exact .cons (h1.vw R e1) (RRs.vw R hr e2)
/-! ### things captured: items of a display, what is appended -/
/-- the items are made stable -/
def frzAll : List Rz → Sl → Option (List PD × Sl)
  | [], ρ => some ([], ρ)
  | r :: rs, ρ => match r with
    | .dat d => match frzAll rs ρ with
      | some (ds, ρ') => some (d :: ds, ρ')
      | none => none
    | .own _ => none
    | .bor i => match ρ[i]? with
      | some (.dat d) => match frzAll rs ρ with
        | some (ds, ρ') => some (d :: ds, ρ')
        | none => none
      | some (.own o) => match o.pd with
        | some d => match frzAll rs (ρ.set i (.dat d)) with
          | some (ds, ρ') => some (d :: ds, ρ')
          | none => none
        | none => none
      | _ => none
theorem frz_all {B : Addr → Prop} {H : Hp} {σ : L2.St} : ∀ {vs : List V} {rs : List Rz} {G : Hp} {ρ ρ' : Sl} {ds : List PD}, Rep K B G H σ ρ → RRs K B G H σ ρ vs rs → frzAll rs ρ = some (ds, ρ') →
    ∃ G', Stp B G H G' H ∧ Rep K B G' H σ ρ' ∧ RpAll K G' vs ds := by
  intro vs rs
  induction rs generalizing vs with
  | nil =>
    intro G ρ ρ' ds R h e
    cases h
    cases e
    exact ⟨G, .refl, R, .nil⟩
  | cons r rs ih =>
    intro G ρ ρ' ds R h e
    cases h with
    | cons h1 hc hr =>
      unfold frzAll at e
      cases r with
      | own o => cases hc
      | dat d =>
        cases e2 : frzAll rs ρ with
        | none => simp only [e2] at e; cases e
        | some p =>
          obtain ⟨ds', ρ''⟩ := p
          simp only [e2] at e
          cases e
          obtain ⟨G', S, R', q⟩ := ih R hr e2
          cases h1 with
          | dat z => exact ⟨G', S, R', .cons (z.mono S.g) q⟩
      | bor i =>
        cases h1 with
        | bor hz =>
          cases ei : ρ[i]? with
          | none => simp only [ei] at e; cases e
          | some s =>
            cases s with
            | emp => simp only [ei] at e; cases e
            | dat d =>
              cases e2 : frzAll rs ρ with
              | none => simp only [ei, e2] at e; cases e
              | some p =>
                obtain ⟨ds', ρ''⟩ := p
                simp only [ei, e2] at e
                cases e
                obtain ⟨G', S, R', q⟩ := ih R hr e2
                obtain ⟨w, w1, w2⟩ := R.dat _ _ ei
                rw [hz] at w1; cases w1
                exact ⟨G', S, R', .cons (w2.mono S.g) q⟩
            | own o =>
              cases eo : o.pd with
              | none => simp only [ei, eo] at e; cases e
              | some d =>
                cases e2 : frzAll rs (ρ.set i (.dat d)) with
                | none => simp only [ei, eo, e2] at e; cases e
                | some p =>
                  obtain ⟨ds', ρ''⟩ := p
                  simp only [ei, eo, e2] at e
                  cases e
                  obtain ⟨w, G1, w1, R1, w2, S1⟩ := R.freeze ei eo
                  obtain ⟨G', S, R', q⟩ := ih R1 (hr.stay S1.g) e2
                  rw [hz] at w1; cases w1
                  exact ⟨G', S1.trans S, R', .cons (w2.mono S.g) q⟩
def frz (rs : List Rz) (ρ : Sl) (k : List PD → Sl → Prop) : Prop := ok (frzAll rs ρ) fun p => k p.1 p.2
/-- (a, b, ..), [a, b, ..] -/
def wTup (wa : Wa) : We := fun ρ Q => wa ρ fun rs ρ1 => frz rs ρ1 fun ds ρ2 => ds.length ≤ sizeLine ∧ Q (.dat (.tup ds)) ρ2
def wLst (wa : Wa) : We := fun ρ Q => wa ρ fun rs ρ1 => frz rs ρ1 fun ds ρ2 => ds.length ≤ sizeLine ∧ Q (.own (.lst ds)) ρ2
theorem we_tup (h : WAa K t wa) : WE K (tTup t) (wTup wa) := fun B G H σ ρ Q QV R q k =>
  h B G H σ ρ _ _ R q fun vs G1 H1 ρ1 rs S1 R1 rr q1 => by
    obtain ⟨⟨ds, ρ2⟩, e, hz, q1⟩ := ok_some q1
    obtain ⟨G2, S2, R2, ra⟩ := frz_all R1 rr e
    refine ⟨by rw [ra.length]; exact hz, fun n hn => ?_⟩
    exact Gv.tup (K := K) (Q := fun r => Q r ρ2) (fun v G' H' r S3 R3 rr3 q3 => k v G' H' ρ2 r ((S1.trans S2).trans S3) R3 rr3 q3) R2 hn ra q1
theorem we_lst (h : WAa K t wa) : WE K (tLst t) (wLst wa) := fun B G H σ ρ Q QV R q k =>
  h B G H σ ρ _ _ R q fun vs G1 H1 ρ1 rs S1 R1 rr q1 => by
    obtain ⟨⟨ds, ρ2⟩, e, hz, q1⟩ := ok_some q1
    obtain ⟨G2, S2, R2, ra⟩ := frz_all R1 rr e
    refine ⟨by rw [ra.length]; exact hz, fun n hn => ?_⟩
    exact Gv.new (K := K) (Q := fun r => Q r ρ2) (fun v G' H' r S3 R3 rr3 q3 => k v G' H' ρ2 r ((S1.trans S2).trans S3) R3 rr3 q3) R2 hn (.lst ra) q1
theorem de_tup {x1} (h : DA X es t wa) : DE X (.Tuple es x1 pos) (tTup t) (wTup wa) := ⟨pe_tup h.pa, we_tup h.wa⟩
theorem de_lst (h : DA X es t wa) : DE X (.List es pos) (tLst t) (wLst wa) := ⟨pe_lst h.pa, we_lst h.wa⟩

/-! ### built-in calls -/
def OkN (K : KT) (r : List V → Hp → VK → Prop) (D : Dn) : Prop := ∀ (B : Addr → Prop) (G H : Hp) (σ : L2.St) (ρ : Sl) (xs : List V) (ds : List PD) (Q : Rz → Prop) (QV : VK),
  Rep K B G H σ ρ → VwAll K G H xs ds → D ds Q → Gv K B G H σ ρ Q QV → r xs H QV
def wCB (D : Dn) (wa : Wa) : We := fun ρ Q => wa ρ fun rs ρ1 => looks rs ρ1 fun ds => D ds fun r => Q r ρ1
theorem we_cb {r : List V → Hp → VK → Prop} {D : Dn} (h : OkN K r D) (ha : WAa K t wa) : WE K (tCB r t) (wCB D wa) := fun B G H σ ρ Q QV R q k =>
  ha B G H σ ρ _ _ R q fun vs G1 H1 ρ1 rs S1 R1 rr q1 => by
    obtain ⟨ds, e, q1⟩ := ok_some q1
    exact h B G1 H1 σ ρ1 vs ds (fun r => Q r ρ1) QV R1 (rr.vw R1 e) q1 fun v G' H' r S3 R3 rr3 q3 => k v G' H' ρ1 r (S1.trans S3) R3 rr3 q3
structure DB (X : CxT) (f : Value) (r : List V → Hp → VK → Prop) (D : Dn) : Prop where
  c : CallR X f r
  ok : OkN X.K r D
theorem CallR.orr {f : Value} {r r' : List V → Hp → VK → Prop} (h : CallR X f r) (h' : CallR X f r') : CallR X f (fun xs H Q => r xs H Q ∨ r' xs H Q) := h.or h'
def dInt : Dn := fun ds k => match ds with
  | [.int i] => k (.dat (.int i))
  | [.bl b] => k (.dat (.int (if b then 1 else 0)))
  | _ => False
theorem db_int : DB X (.type "int") (fun xs H Q => (∃ i, xs = [.int i] ∧ Q (.int i) H) ∨ ∃ k, xs = [.bl k] ∧ Q (.int (if k then 1 else 0)) H) dInt := by
  refine ⟨call_int1, fun B G H σ ρ xs ds Q QV R hv q k => ?_⟩
  match ds, hv, q with
  | [.int i], .cons h .nil, q => exact .inl ⟨i, by rw [h.int], k.dat R (.int _) q⟩
  | [.bl b], .cons h .nil, q => exact .inr ⟨b, by rw [h.bl], k.dat R (.int _) q⟩
def dAbs : Dn := fun ds k => match ds with
  | [.int i] => k (.dat (.int (if i < 0 then -i else i)))
  | _ => False
theorem db_abs : DB X (.builtin "abs") (fun xs H Q => ∃ i, xs = [.int i] ∧ Q (.int (if i < 0 then -i else i)) H) dAbs := by
  refine ⟨call_abs, fun B G H σ ρ xs ds Q QV R hv q k => ?_⟩
  match ds, hv, q with
  | [.int i], .cons h .nil, q => exact ⟨i, by rw [h.int], k.dat R (.int _) q⟩
def rLen3 (K : PySem.W.Frag) : List V → Hp → VK → Prop := fun xs H Q => (∃ p ys, xs = [.ref p] ∧ (SqL K H p ys ∨ SqT K H p ys) ∧ Q (.int ys.length) H) ∨ ∃ z, xs = [.str z] ∧ z.length ≤ sizeLine ∧ Q (.int z.length) H
def dLen : Dn := fun ds k => match ds with
  | [.lst xs] => k (.dat (.int xs.length))
  | [.tup xs] => k (.dat (.int xs.length))
  | [.scr xs] => k (.dat (.int xs.length))
  | [.str z] => z.length ≤ sizeLine ∧ k (.dat (.int z.length))
  | _ => False
theorem db_len : DB X (.builtin "len") (rLen3 X.K) dLen := by
  refine ⟨CallR.orr call_len_seq call_len_str, fun B G H σ ρ xs ds Q QV R hv q k => ?_⟩
  match ds, hv, q with
  | [.lst ys], .cons h .nil, q =>
    obtain ⟨a, us, rfl, ha, ra⟩ := h.lst R.gh
    exact .inl ⟨a, us, rfl, .inl (SqL.of ha), by rw [ra.length]; exact k.dat R (.int _) q⟩
  | [.tup ys], .cons h .nil, q =>
    obtain ⟨a, us, rfl, ha, ra⟩ := h.tup R.gh
    exact .inl ⟨a, us, rfl, .inr ha, by rw [ra.length]; exact k.dat R (.int _) q⟩
  | [.scr ys], .cons h .nil, q =>
    obtain ⟨a, rfl, ha⟩ := h.scr R.gh
    exact .inl ⟨a, _, rfl, .inl ha, by rw [List.length_map]; exact k.dat R (.int _) q⟩
  | [.str z], .cons h .nil, q => exact .inr ⟨z, by rw [h.str], q.1, k.dat R (.int _) q.2⟩
def dMax2 : Dn := fun ds k => match ds with
  | [.int i, .int j] => k (.dat (.int (if j > i then j else i)))
  | _ => False
theorem db_max2 (hc : X.calm = true) : DB X (.builtin "max") (fun xs H Q => ∃ i j, xs = [.int i, .int j] ∧ Q (.int (if j > i then j else i)) H) dMax2 := by
  refine ⟨call_max2 hc, fun B G H σ ρ xs ds Q QV R hv q k => ?_⟩
  match ds, hv, q with
  | [.int i, .int j], .cons h (.cons h' .nil), q => exact ⟨i, j, by rw [h.int, h'.int], k.dat R (.int _) q⟩
def dMin2 : Dn := fun ds k => match ds with
  | [.int i, .int j] => k (.dat (.int (if j < i then j else i)))
  | _ => False
theorem db_min2 (hc : X.calm = true) : DB X (.builtin "min") (fun xs H Q => ∃ i j, xs = [.int i, .int j] ∧ Q (.int (if j < i then j else i)) H) dMin2 := by
  refine ⟨call_min2 hc, fun B G H σ ρ xs ds Q QV R hv q k => ?_⟩
  match ds, hv, q with
  | [.int i, .int j], .cons h (.cons h' .nil), q => exact ⟨i, j, by rw [h.int, h'.int], k.dat R (.int _) q⟩
/-- ints of a list of data -/
def intsOf : List PD → Option (List Int)
  | [] => some []
  | .int i :: ds => match intsOf ds with
    | some ns => some (i :: ns)
    | none => none
  | _ :: _ => none
theorem intsOf_eq : ∀ {ds : List PD} {ns : List Int}, intsOf ds = some ns → ds = ns.map PD.int := by
  intro ds
  induction ds with
  | nil => intro ns h; cases h; rfl
  | cons d ds ih =>
    intro ns h
    cases d with
    | int i =>
      unfold intsOf at h
      cases e : intsOf ds with
      | none => simp only [e] at h; cases h
      | some ms => simp only [e] at h; cases h; rw [ih e]; rfl
    | _ => cases h
theorem intsOf_map : ∀ (ns : List Int), intsOf (ns.map PD.int) = some ns
  | [] => rfl
  | n :: ns => by
    show (match intsOf (ns.map PD.int) with | some ms => some (n :: ms) | none => none) = _
    rw [intsOf_map ns]
def dSum : Dn := fun ds k => match ds with
  | [.lst xs] => ok (intsOf xs) fun ns => k (.dat (.int ns.sum))
  | [.scr ns] => k (.dat (.int ns.sum))
  | _ => False
theorem db_sum (hc : X.calm = true) : DB X (.builtin "sum") (rSum X.K) dSum := by
  refine ⟨cr_sum hc, fun B G H σ ρ xs ds Q QV R hv q k => ?_⟩
  match ds, hv, q with
  | [.lst ys], .cons h .nil, q =>
    obtain ⟨ns, e, q⟩ := ok_some q
    obtain ⟨a, us, rfl, ha, ra⟩ := h.lst R.gh
    rw [intsOf_eq e] at ra
    rw [ra.ints] at ha
    exact ⟨a, ns, rfl, SqL.of ha, k.dat R (.int _) q⟩
  | [.scr ns], .cons h .nil, q =>
    obtain ⟨a, rfl, ha⟩ := h.scr R.gh
    exact ⟨a, ns, rfl, ha, k.dat R (.int _) q⟩
def bools : List PD → Option (List Bool)
  | [] => some []
  | .bl b :: ds => match bools ds with
    | some ns => some (b :: ns)
    | none => none
  | _ :: _ => none
theorem bools_eq : ∀ {ds : List PD} {ns : List Bool}, bools ds = some ns → ds = ns.map PD.bl := by
  intro ds
  induction ds with
  | nil => intro ns h; cases h; rfl
  | cons d ds ih =>
    intro ns h
    cases d with
    | bl i =>
      unfold bools at h
      cases e : bools ds with
      | none => simp only [e] at h; cases h
      | some ms => simp only [e] at h; cases h; rw [ih e]; rfl
    | _ => cases h
theorem RpAll.bls {G : Hp} : ∀ {vs : List V} {ns : List Bool}, RpAll K G vs (ns.map PD.bl) → vs = ns.map V.bl := by
  intro vs ns
  induction ns generalizing vs with
  | nil => intro h; cases h; rfl
  | cons n ns ih => intro h; cases h with | cons h r => cases h; rw [ih r]; rfl
def dAll : Dn := fun ds k => match ds with
  | [.lst xs] => ok (bools xs) fun bs => k (.dat (.bl (bs.all id)))
  | _ => False
def dAny : Dn := fun ds k => match ds with
  | [.lst xs] => ok (bools xs) fun bs => k (.dat (.bl (bs.any id)))
  | _ => False
theorem db_all (hc : X.calm = true) : DB X (.builtin "all") (rAll X.K) dAll := by
  refine ⟨cr_all hc, fun B G H σ ρ xs ds Q QV R hv q k => ?_⟩
  match ds, hv, q with
  | [.lst ys], .cons h .nil, q =>
    obtain ⟨ns, e, q⟩ := ok_some q
    obtain ⟨a, us, rfl, ha, ra⟩ := h.lst R.gh
    rw [bools_eq e] at ra
    rw [ra.bls] at ha
    exact ⟨a, ns, rfl, SqL.of ha, k.dat R (.bl _) q⟩
theorem db_any (hc : X.calm = true) : DB X (.builtin "any") (rAny X.K) dAny := by
  refine ⟨cr_any hc, fun B G H σ ρ xs ds Q QV R hv q k => ?_⟩
  match ds, hv, q with
  | [.lst ys], .cons h .nil, q =>
    obtain ⟨ns, e, q⟩ := ok_some q
    obtain ⟨a, us, rfl, ha, ra⟩ := h.lst R.gh
    rw [bools_eq e] at ra
    rw [ra.bls] at ha
    exact ⟨a, ns, rfl, SqL.of ha, k.dat R (.bl _) q⟩
/-- list(xs), tuple(xs) -/
def dList : Dn := fun ds k => match ds with
  | [.lst xs] => k (.own (.lst xs))
  | [.tup xs] => k (.own (.lst xs))
  | [.scr ns] => k (.own (.lst (ns.map .int)))
  | _ => False
theorem db_list : DB X (.type "list") (fun xs H Q => ∃ p ys, xs = [.ref p] ∧ (SqL X.K H p ys ∨ SqT X.K H p ys) ∧ ∀ l, H l = none → Q (.ref l) (upd H l (.lst ys))) dList := by
  refine ⟨call_list_of, fun B G H σ ρ xs ds Q QV R hv q k => ?_⟩
  match ds, hv, q with
  | [.lst ys], .cons h .nil, q =>
    obtain ⟨a, us, rfl, ha, ra⟩ := h.lst R.gh
    exact ⟨a, us, rfl, .inl (SqL.of ha), fun n hn => k.new R hn (.lst ra) q⟩
  | [.tup ys], .cons h .nil, q =>
    obtain ⟨a, us, rfl, ha, ra⟩ := h.tup R.gh
    exact ⟨a, us, rfl, .inr ha, fun n hn => k.new R hn (.lst ra) q⟩
  | [.scr ns], .cons h .nil, q =>
    obtain ⟨a, rfl, ha⟩ := h.scr R.gh
    exact ⟨a, _, rfl, .inl ha, fun n hn => k.new R hn (.lst (rp_ints ns)) q⟩
def dTuple : Dn := fun ds k => match ds with
  | [.lst xs] => k (.dat (.tup xs))
  | [.tup xs] => k (.dat (.tup xs))
  | _ => False
theorem db_tuple : DB X (.type "tuple") (fun xs H Q => ∃ p ys, xs = [.ref p] ∧ ((SqL X.K H p ys ∧ ∀ l, H l = none → Q (.ref l) (upd H l (.tup ys))) ∨ (SqT X.K H p ys ∧ Q (.ref p) H))) dTuple := by
  refine ⟨call_tuple_of, fun B G H σ ρ xs ds Q QV R hv q k => ?_⟩
  match ds, hv, q with
  | [.lst ys], .cons h .nil, q =>
    obtain ⟨a, us, rfl, ha, ra⟩ := h.lst R.gh
    exact ⟨a, us, rfl, .inl ⟨SqL.of ha, fun n hn => k.tup R hn ra q⟩⟩
  | [.tup ys], .cons h .nil, q =>
    have w := h.tupR
    obtain ⟨a, us, rfl, ha, ra⟩ := h.tup R.gh
    exact ⟨a, us, rfl, .inr ⟨ha, k.dat R w q⟩⟩
/-- repr of plain data -/
def rRepr (K : PySem.W.Frag) : List V → Hp → VK → Prop := fun xs H Q => ∃ x d, xs = [x] ∧ Dp K H x d ∧ d.showable = true ∧ d.hasDict = false ∧ d.depth ≤ 64 ∧ d.shown.length ≤ sizeLine ∧ Q (.str d.shown) H
theorem call_repr (hg : X.A.guards = some []) (hu : X.cx.A.units + 66 < cLine) : CallR X (.builtin "repr") (rRepr X.K) := by
  intro pins s σ H xs us Q I r h
  obtain ⟨x, d, rfl, hd, hs, hdc, hdp, hz, q⟩ := h
  obtain ⟨u, rfl, ru⟩ := vals1 r
  cases hd with
  | non => cases ru; exact PySem.P.repr_of_none ⟨.str _, H, I.tok _, ⟨_, rfl⟩, q⟩
  | bl b => cases ru; exact PySem.P.repr_of_bool ⟨.str _, H, I.tok _, ⟨_, rfl⟩, q⟩
  | int i => obtain ⟨t, rfl⟩ := ru; exact PySem.P.repr_of_int (of_decide_eq_true hs) ⟨.str _, H, I.tok _, ⟨_, rfl⟩, q⟩
  | str z => obtain ⟨t, rfl⟩ := ru; exact PySem.P.repr_of_str ⟨.str _, H, I.tok _, ⟨_, rfl⟩, q⟩ hz
  | lst a b =>
    obtain ⟨as, rd⟩ := Dp.reads I _ _ _ (.lst a b) ru
    cases ru
    exact repr_of_reads' rd hs (fun z => by rw [hdc] at z; cases z) hg (by omega) (fun _ _ z => z) (fun h' tu tk kk => ⟨.str _, H, I.kept kk, ⟨_, rfl⟩, q⟩) hz
  | tup a b =>
    obtain ⟨as, rd⟩ := Dp.reads I _ _ _ (.tup a b) ru
    cases ru
    exact repr_of_reads' rd hs (fun z => by rw [hdc] at z; cases z) hg (by omega) (fun _ _ z => z) (fun h' tu tk kk => ⟨.str _, H, I.kept kk, ⟨_, rfl⟩, q⟩) hz
/-- what repr asks: it is plain, its ints and its text are not too long -/
def showOk (d : PD) : Prop := d.plain = true ∧ d.py.showable = true ∧ d.py.hasDict = false ∧ d.py.depth ≤ 64 ∧ d.py.shown.length ≤ sizeLine
def dRepr : Dn := fun ds k => match ds with
  | [d] => showOk d ∧ k (.dat (.str d.py.shown))
  | _ => False
theorem db_repr (hg : X.A.guards = some []) (hu : X.cx.A.units + 66 < cLine) : DB X (.builtin "repr") (rRepr X.K) dRepr := by
  refine ⟨call_repr hg hu, fun B G H σ ρ xs ds Q QV R hv q k => ?_⟩
  match ds, hv, q with
  | [d], .cons h .nil, ⟨⟨p, s1, s2, s3, s4⟩, q⟩ => exact ⟨_, _, rfl, h.dp R.gh p, s1, s2, s3, s4, k.dat R (.str _) q⟩
/-- str(int) -/
def dStr : Dn := fun ds k => match ds with
  | [.int i] => i.natAbs.log2 < 1920 ∧ k (.dat (.str (toString i)))
  | _ => False
end
end DL

set_option Elab.async false
set_option linter.all false
set_option maxRecDepth 100000
set_option maxHeartbeats 2000000
namespace DL
open PySem L2
section
variable {X : CxT} {K : KT} {a b e : Expr} {es : List Expr} {te ta tb : TE} {t : TA} {we wa wb : We} {wr : Wa} {pos p : Pos}
/-! ### subscripts -/
def dIx : D2 := fun x y k => match x, y with
  | .lst xs, .int i => ok (atI xs i) fun d => k (.dat d)
  | .tup xs, .int i => ok (atI xs i) fun d => k (.dat d)
  | .scr ns, .int i => ok (atI ns i) fun n => k (.dat (.int n))
  | .str z, .int i => z.length ≤ sizeLine ∧ ok (atI z.cps.toList i) fun c => k (.dat (.str ⟨#[c]⟩))
  | _, _ => False
theorem rp_at {G : Hp} {vs : List V} {ds : List PD} {i : Int} {d : PD} (r : RpAll K G vs ds) (h : atI ds i = some d) : ∃ v, atI vs i = some v ∧ Rp K G v d := by
  unfold atI at h ⊢
  rw [r.length]
  cases e : ixN ds.length i with
  | none => rw [e] at h; cases h
  | some j =>
    rw [e] at h
    exact r.get h
theorem ints_at {ns : List Int} {i n : Int} (h : atI ns i = some n) : atI (ns.map V.int) i = some (.int n) := by
  unfold atI at h ⊢
  rw [List.length_map]
  cases e : ixN ns.length i with
  | none => rw [e] at h; cases h
  | some j =>
    rw [e] at h
    have h : ns[j]? = some n := h
    show (ns.map V.int)[j]? = _
    rw [List.getElem?_map, h]
    rfl
theorem ok2_ix : Ok2 K (rIx K) dIx := by
  intro B G H σ ρ x y dx dy Q QV R vx vy q k
  cases dy with
  | int i =>
    cases dx with
    | lst ds =>
      obtain ⟨d, e, q⟩ := ok_some q
      obtain ⟨a, us, rfl, ha, ra⟩ := vx.lst R.gh
      obtain ⟨v, e1, r1⟩ := rp_at ra e
      exact .inl ⟨a, us, i, v, rfl, vy.int, SqL.of ha, e1, k.dat R r1 q⟩
    | tup ds =>
      obtain ⟨d, e, q⟩ := ok_some q
      obtain ⟨a, us, rfl, ha, ra⟩ := vx.tup R.gh
      obtain ⟨v, e1, r1⟩ := rp_at ra e
      exact .inr (.inl ⟨a, us, i, v, rfl, vy.int, ha, e1, k.dat R r1 q⟩)
    | scr ns =>
      obtain ⟨n, e, q⟩ := ok_some q
      obtain ⟨a, rfl, ha⟩ := vx.scr R.gh
      exact .inl ⟨a, _, i, .int n, rfl, vy.int, ha, ints_at e, k.dat R (.int n) q⟩
    | str z =>
      obtain ⟨hz, q⟩ := q
      obtain ⟨c, e, q⟩ := ok_some q
      exact .inr (.inr ⟨z, i, c, vx.str, vy.int, hz, e, k.dat R (.str _) q⟩)
    | _ => exact q.elim
  | _ => cases dx <;> exact q.elim
theorem de_ix (ha : DE X a ta wa) (hb : DE X b tb wb) (hs : PlainIx b := by intro _ _; rfl) : DE X (.Subscript a b pos) (tOp (rIx X.K) ta tb) (wBin dIx wa wb) := ⟨pe_ix ix_seq ha.pe hb.pe hs, we_bin ok2_ix ha.we hb.we⟩
/-! ### slices -/
abbrev Wo := Sl → (Option Int → Sl → Prop) → Prop
def WOo (K : KT) (to : TO) (w : Wo) : Prop := ∀ (B : Addr → Prop) (G H : Hp) (σ : L2.St) (ρ : Sl) (Q : Option Int → Sl → Prop) (QV : Option Int → Hp → Prop), Rep K B G H σ ρ → w ρ Q →
  (∀ o G' H' ρ', Stp B G H G' H' → Rep K B G' H' σ ρ' → Q o ρ' → QV o H') → to σ H QV
structure DO (X : CxT) (e : Option Expr) (to : TO) (w : Wo) : Prop where
  po : PO X e to
  wo : WOo X.K to w
def wNoPart : Wo := fun ρ Q => Q none ρ
def wPart (w : We) : Wo := fun ρ Q => w ρ fun r ρ1 => match r with
  | .dat (.int i) => Q (some i) ρ1
  | _ => False
theorem do_none : DO X none tNoPart wNoPart := ⟨po_none, fun B G H σ ρ Q QV R q k => k none G H ρ .refl R q⟩
theorem do_some (h : DE X e te we) : DO X (some e) (tPart te) (wPart we) := ⟨po_some h.pe, fun B G H σ ρ Q QV R q k => h.we B G H σ ρ _ _ R q fun v G1 H1 ρ1 r S1 R1 rr q1 => by
  cases rr with
  | dat z =>
    cases z with
    | int i => exact ⟨i, rfl, k (some i) G1 H1 ρ1 S1 R1 q1⟩
    | _ => exact q1.elim
  | own => exact q1.elim
  | bor => exact q1.elim⟩
def cutP {α : Type} (xs : List α) (lo hi : Option Int) : List α := (xs.drop (HT.sIx xs.length 0 lo)).take (HT.sIx xs.length xs.length hi - HT.sIx xs.length 0 lo)
theorem cut_rp {G : Hp} {vs : List V} {ds : List PD} (r : RpAll K G vs ds) (lo hi : Option Int) : RpAll K G (cutV vs lo hi) (cutP ds lo hi) := by
  unfold cutV cutP
  rw [r.length]
  exact (r.drop _).take _
theorem cut_ints (ns : List Int) (lo hi : Option Int) : cutV (ns.map V.int) lo hi = (cutP ns lo hi).map V.int := by
  unfold cutV cutP
  rw [List.length_map, List.map_take, List.map_drop]
def rSl2 (K : PySem.W.Frag) : V → Option Int → Option Int → Hp → VK → Prop := fun x lo hi H Q => rSlL K x lo hi H Q ∨ rSlA K x lo hi H Q
def dSl (x : PD) (lo hi : Option Int) (k : Rz → Prop) : Prop := match x with
  | .lst xs => k (.own (.lst (cutP xs lo hi)))
  | .scr ns => k (.own (.lst ((cutP ns lo hi).map .int)))
  | .tup xs => k (.dat (.tup (cutP xs lo hi)))
  | _ => False
theorem cut_whole {α : Type} (xs : List α) (lo hi : Option Int) (h : HT.sIx xs.length 0 lo = 0 ∧ HT.sIx xs.length xs.length hi = xs.length) : cutP xs lo hi = xs := by
  unfold cutP
  rw [h.1, h.2]
  simp
def wSl (we : We) (wl wh : Wo) : We := fun ρ Q => we ρ fun r ρ1 => warm r ρ1 ∧ wl ρ1 fun lo ρ2 => wh ρ2 fun hi ρ3 => look r ρ3 fun x => dSl x lo hi fun r => Q r ρ3
theorem we_sl {tl th : TO} {wl wh : Wo} (h : WE K te we) (h1 : WOo K tl wl) (h2 : WOo K th wh) : WE K (tSl (rSl2 K) te tl th) (wSl we wl wh) := fun B G H σ ρ Q QV R q k =>
  h B G H σ ρ _ _ R q fun v G1 H1 ρ1 r S1 R1 rr ⟨c1, q1⟩ => by
    obtain ⟨G1', S1', R1', rr1', cc, ec⟩ := rr.cool R1 c1
    refine h1 B G1' H1 σ ρ1 _ _ R1' q1 fun lo G2 H2 ρ2 S2 R2 q2 => ?_
    refine h2 B G2 H2 σ ρ2 _ _ R2 q2 fun hi G3 H3 ρ3 S3 R3 q3 => ?_
    obtain ⟨x, ex, q3⟩ := ok_some q3
    have vw := (rr1'.stay (H' := H3) (ρ' := ρ3) cc (S2.g.trans S3.g)).vw R3 ((ec ρ3).trans ex)
    have kk : Gv K B G3 H3 σ ρ3 (fun r => Q r ρ3) QV := fun w G4 H4 res S4 R4 rr4 q4 => k w G4 H4 ρ3 res ((((S1.trans S1').trans S2).trans S3).trans S4) R4 rr4 q4
    cases x with
    | lst xs =>
      obtain ⟨a, us, rfl, ha, ra⟩ := vw.lst R3.gh
      exact .inl ⟨a, us, rfl, SqL.of ha, fun n hn => kk.new R3 hn (.lst (cut_rp ra lo hi)) q3⟩
    | scr ns =>
      obtain ⟨a, rfl, ha⟩ := vw.scr R3.gh
      refine .inl ⟨a, _, rfl, ha, fun n hn => ?_⟩
      rw [cut_ints]
      exact kk.new R3 hn (.lst (rp_ints _)) q3
    | tup xs =>
      have w := vw.tupR
      obtain ⟨a, us, rfl, ha, ra⟩ := vw.tup R3.gh
      refine .inr ⟨a, us, rfl, ha, fun hw => ?_, fun _ n hn => kk.tup R3 hn (cut_rp ra lo hi) q3⟩
      rw [ra.length] at hw
      have q3 : Q (.dat (.tup (cutP xs lo hi))) ρ3 := q3
      rw [cut_whole xs lo hi hw] at q3
      exact kk.dat R3 w q3
    | _ => exact q3.elim
theorem de_sl {lo hi : Option Expr} {tl th : TO} {wl wh : Wo} {p2 : Pos} (h : DE X e te we) (h1 : DO X lo tl wl) (h2 : DO X hi th wh) : DE X (.Subscript e (.Slice lo hi none p2) pos) (tSl (rSl2 X.K) te tl th) (wSl we wl wh) :=
  ⟨pe_slice (sl_list.or sl_tupA) h.pe h1.po h2.po, we_sl h.we h1.wo h2.wo⟩

/-! ### a slot's own thing, changed -/
theorem Rep.write {B : Addr → Prop} {G H : Hp} {σ : L2.St} {ρ : Sl} {i : Nat} {o o' : OD} {p : Addr} {ho' : HO} (R : Rep K B G H σ ρ) (hi : ρ[i]? = some (SD.own o)) (hs : σ[i]? = some (some (V.ref p))) (r : RO K G ho' o') :
    Rep K B G (upd H p ho') σ (ρ.set i (SD.own o')) ∧ Stp B G H G (upd H p ho') := by
  obtain ⟨q, ho, h1, h2, h3, h4, h5⟩ := R.own i o hi
  rw [hs] at h1; cases h1
  have hil : i < ρ.length := (List.getElem?_eq_some_iff.mp hi).1
  have S1 : Stp B G H G (upd H p ho') := ⟨Ex.refl G, fun _ _ h => h, fun _ _ h => h, fun a u hb h _ => by rw [upd_ne (nb_ne h4 hb)]; exact h, fun _ _ _ _ _ => rfl⟩
  refine ⟨⟨R.gh.right h3, R.tb.put h2 h5.nt h5.nc, R.z.step S1, fun a hb => ?_, by rw [List.length_set]; exact R.len, fun j d h => ?_, fun j u h => ?_, fun j k u w q x y z v => ?_⟩, S1⟩
  · exact (R.bh a hb).upd (nb_ne h4 hb)
  · by_cases z : j = i
    · subst z; rw [List.getElem?_set_self hil] at h; cases h
    · rw [List.getElem?_set_ne (Ne.symm z)] at h; exact R.dat j d h
  · by_cases z : j = i
    · subst z
      rw [List.getElem?_set_self hil] at h; cases h
      exact ⟨p, ho', hs, upd_same, h3, h4, r⟩
    · rw [List.getElem?_set_ne (Ne.symm z)] at h
      obtain ⟨q, hq, g1, g2, g3, g4, g5⟩ := R.own j u h
      have ne : q ≠ p := fun e => z (R.sep j i u o p h hi (by rw [g1, e]) hs)
      exact ⟨q, hq, g1, by rw [upd_ne ne]; exact g2, g3, g4, g5⟩
  · have get : ∀ m (s : OD), (ρ.set i (SD.own o'))[m]? = some (SD.own s) → ∃ s', ρ[m]? = some (SD.own s') := fun m s h => by
      by_cases z : m = i
      · subst z; exact ⟨o, hi⟩
      · rw [List.getElem?_set_ne (Ne.symm z)] at h; exact ⟨s, h⟩
    obtain ⟨u', x'⟩ := get j u x
    obtain ⟨w', y'⟩ := get k w y
    exact R.sep j k u' w' q x' y' z v
/-- the slot's own list, as it stands -/
def ownL (i : Nat) (ρ : Sl) (k : List PD → Prop) : Prop := match ρ[i]? with
  | some (.own (.lst xs)) => k xs
  | _ => False
theorem ownL_of {i : Nat} {ρ : Sl} {k : List PD → Prop} (h : ownL i ρ k) : ∃ xs, ρ[i]? = some (SD.own (.lst xs)) ∧ k xs := by
  unfold ownL at h
  split at h
  · rename_i xs e; exact ⟨xs, e, h⟩
  · exact h.elim
theorem Rep.lst {B : Addr → Prop} {G H : Hp} {σ : L2.St} {ρ : Sl} {i : Nat} {xs : List PD} (R : Rep K B G H σ ρ) (hi : ρ[i]? = some (SD.own (.lst xs))) : ∃ p vs, σ[i]? = some (some (V.ref p)) ∧ H p = some (.lst vs) ∧ RpAll K G vs xs := by
  obtain ⟨p, ho, h1, h2, h3, h4, h5⟩ := R.own i _ hi
  cases h5 with
  | lst r => exact ⟨p, _, h1, h2, r⟩
/-- xs.append(e) -/
def wAppend (i : Nat) (wa : Wa) : We := fun ρ Q => ownL i ρ fun _ => wa ρ fun rs ρ1 => frz rs ρ1 fun ds ρ2 => ownL i ρ2 fun xs => match ds with
  | [d] => xs.length < sizeLine ∧ Q (.dat .non) (ρ2.set i (.own (.lst (xs ++ [d]))))
  | _ => False
theorem RpAll.one {G : Hp} {vs : List V} {d : PD} (h : RpAll K G vs [d]) : ∃ v, vs = [v] ∧ Rp K G v d := by
  cases h with | cons h r => cases r; exact ⟨_, rfl, h⟩
theorem we_append {i : Nat} (h : WAa K t wr) : WE K (tBM K "list" rAppend (tVar i) t) (wAppend i wr) := fun B G H σ ρ Q QV R q k => by
  obtain ⟨xs0, e0, q⟩ := ownL_of q
  obtain ⟨p, vs0, hs, hp, r0⟩ := R.lst e0
  refine ⟨_, hs, Or.inl ⟨rfl, _, SqL.of hp⟩, ?_⟩
  refine h B G H σ ρ _ _ R q fun vs G1 H1 ρ1 rs S1 R1 rr q1 => ?_
  obtain ⟨⟨ds, ρ2⟩, e, q1⟩ := ok_some q1
  obtain ⟨G2, S2, R2, ra⟩ := frz_all R1 rr e
  obtain ⟨xs, e2, q1⟩ := ownL_of q1
  obtain ⟨p', vs', hs', hp', r'⟩ := R2.lst e2
  rw [hs] at hs'; cases hs'
  match ds, ra, q1 with
  | [d], ra, ⟨hz, q1⟩ =>
    obtain ⟨v, rfl, rv⟩ := ra.one
    obtain ⟨R3, S3⟩ := R2.write (ho' := .lst (vs' ++ [v])) e2 hs (.lst (r'.append (.cons rv .nil)))
    exact ⟨p, vs', v, rfl, rfl, hp', by rw [r'.length]; exact hz, k _ _ _ _ _ ((S1.trans S2).trans S3) R3 (.dat .non) q1⟩
/-- xs.extend(e) -/
def wExtend (i : Nat) (wa : Wa) : We := fun ρ Q => ownL i ρ fun _ => wa ρ fun rs ρ1 => looks rs ρ1 fun ds => ownL i ρ1 fun xs => match ds with
  | [.lst ys] => xs.length + ys.length ≤ sizeLine ∧ Q (.dat .non) (ρ1.set i (.own (.lst (xs ++ ys))))
  | _ => False
theorem we_extend {i : Nat} (h : WAa K t wr) : WE K (tBM K "list" rExtend (tVar i) t) (wExtend i wr) := fun B G H σ ρ Q QV R q k => by
  obtain ⟨xs0, e0, q⟩ := ownL_of q
  obtain ⟨p, vs0, hs, hp, r0⟩ := R.lst e0
  refine ⟨_, hs, Or.inl ⟨rfl, _, SqL.of hp⟩, ?_⟩
  refine h B G H σ ρ _ _ R q fun vs G1 H1 ρ1 rs S1 R1 rr q1 => ?_
  obtain ⟨ds, e, q1⟩ := ok_some q1
  have va := rr.vw R1 e
  obtain ⟨xs, e2, q1⟩ := ownL_of q1
  obtain ⟨p', vs', hs', hp', r'⟩ := R1.lst e2
  rw [hs] at hs'; cases hs'
  match ds, va, q1 with
  | [.lst ys], .cons v .nil, ⟨hz, q1⟩ =>
    obtain ⟨b, ws, rfl, hb, rb⟩ := v.lst R1.gh
    obtain ⟨R3, S3⟩ := R1.write (ho' := .lst (vs' ++ ws)) e2 hs (.lst (r'.append rb))
    exact ⟨p, b, vs', ws, rfl, rfl, hp', hb, by rw [r'.length, rb.length]; exact hz, k _ _ _ _ _ (S1.trans S3) R3 (.dat .non) q1⟩
/-- xs.pop(k), xs.pop() -/
def wPopAt (i : Nat) (wa : Wa) : We := fun ρ Q => ownL i ρ fun _ => wa ρ fun rs ρ1 => looks rs ρ1 fun ds => ownL i ρ1 fun xs => match ds with
  | [.int j] => (-(2 ^ 63) ≤ j ∧ j < 2 ^ 63) ∧ ok (seqIndex? j xs.length) fun k => ok (xs[k]?) fun d => Q (.dat d) (ρ1.set i (.own (.lst (xs.eraseIdx k))))
  | _ => False
def wPop (i : Nat) : We := fun ρ Q => ownL i ρ fun xs => ok (xs[xs.length - 1]?) fun d => Q (.dat d) (ρ.set i (.own (.lst xs.dropLast)))
variable {x : Str} {apos cpos : Pos}
theorem de_append {i : Nat} (hv : DE X (.Name x p) (tVar i) (wVar i)) (h : DA X (e :: es) t wr) (hbase : attributeBase (.Name x p) "append" X.env (eval (.Name x p) X.env) = eval (.Name x p) X.env := by rfl)
    (hfew : ((backTo cpos (starEach (e :: es) X.env)).all (fun x => !x.1) && (backToKw cpos (keywordEach [] X.env)).all (fun x => x.1.isSome) && decide ((e :: es).length + ([] : List Keyword).length + (if ([] : List Keyword).isEmpty then 0 else 1) < 30)) = true := by rfl)
    (hline : (apos.endLine == cpos.line) = true := by rfl) (hs : starEach (e :: es) X.env = (false, eval e X.env) :: starEach es X.env := by rfl) (hplain : (backTo cpos (starEach es X.env)).any (·.1) = false := by rfl) :
    DE X (.Call (.Attribute (.Name x p) "append" apos) (e :: es) [] cpos) (tBM X.K "list" rAppend (tVar i) t) (wAppend i wr) := ⟨pe_bm PySem.F.plainAttrs_list PySem.F.slot_list_append PySem.F.type_list_append mt_append hv.pe h.pa hbase hfew hline hs hplain, we_append h.wa⟩
theorem de_extend {i : Nat} (hv : DE X (.Name x p) (tVar i) (wVar i)) (h : DA X (e :: es) t wr) (hbase : attributeBase (.Name x p) "extend" X.env (eval (.Name x p) X.env) = eval (.Name x p) X.env := by rfl)
    (hfew : ((backTo cpos (starEach (e :: es) X.env)).all (fun x => !x.1) && (backToKw cpos (keywordEach [] X.env)).all (fun x => x.1.isSome) && decide ((e :: es).length + ([] : List Keyword).length + (if ([] : List Keyword).isEmpty then 0 else 1) < 30)) = true := by rfl)
    (hline : (apos.endLine == cpos.line) = true := by rfl) (hs : starEach (e :: es) X.env = (false, eval e X.env) :: starEach es X.env := by rfl) (hplain : (backTo cpos (starEach es X.env)).any (·.1) = false := by rfl) :
    DE X (.Call (.Attribute (.Name x p) "extend" apos) (e :: es) [] cpos) (tBM X.K "list" rExtend (tVar i) t) (wExtend i wr) := ⟨pe_bm PySem.F.plainAttrs_list PySem.F.slot_list_extend PySem.F.type_list_extend mt_extend hv.pe h.pa hbase hfew hline hs hplain, we_extend h.wa⟩
end
end DL

set_option Elab.async false
set_option linter.all false
set_option maxRecDepth 100000
set_option maxHeartbeats 2000000
namespace DL
open PySem L2
/-- what is wanted behind a statement -/
structure On where
  nx : Sl → Prop
  rt : Rz → Sl → Prop
  bk : Sl → Prop := fun _ => False
  ct : Sl → Prop := fun _ => False
abbrev Ws := On → Sl → Prop
/-- slots that are never stored to stay what they were -/
def Pn (T : Nat → Bool) (S0 σ : L2.St) : Prop := ∀ i, T i = true → σ[i]? = S0[i]?
theorem Pn.set {T : Nat → Bool} {S0 σ : L2.St} (h : Pn T S0 σ) {i : Nat} {v : Option V} (hi : T i = false) : Pn T S0 (σ.set i v) := fun j hj => by
  rw [List.getElem?_set_ne (fun z => by rw [z, hj] at hi; cases hi)]
  exact h j hj
def WSs (K : KT) (T : Nat → Bool) (ts : TS) (w : Ws) : Prop := ∀ (B : Addr → Prop) (G H : Hp) (σ S0 : L2.St) (ρ : Sl) (O : On) (D : Ends), Rep K B G H σ ρ → Pn T S0 σ → w O ρ →
  (∀ G' H' σ' ρ', Stp B G H G' H' → Rep K B G' H' σ' ρ' → Pn T S0 σ' → O.nx ρ' → D.nx σ' H') →
  (∀ G' H' σ' ρ' v r, Stp B G H G' H' → Rep K B G' H' σ' ρ' → Pn T S0 σ' → RR K B G' H' σ' ρ' v r → O.rt r ρ' → D.rt v H') →
  (∀ G' H' σ' ρ', Stp B G H G' H' → Rep K B G' H' σ' ρ' → Pn T S0 σ' → O.bk ρ' → D.bk σ' H') →
  (∀ G' H' σ' ρ', Stp B G H G' H' → Rep K B G' H' σ' ρ' → Pn T S0 σ' → O.ct ρ' → D.ct σ' H') → ts D σ H
structure DS (X : CxT) (T : Nat → Bool) (st : Stmt) (ts : TS) (w : Ws) : Prop where
  ps : PS X st ts
  ws : WSs X.K T ts w
structure DSs (X : CxT) (T : Nat → Bool) (st : List Stmt) (ts : TS) (w : Ws) : Prop where
  pss : PSs X st ts
  ws : WSs X.K T ts w
section
variable {X : CxT} {K : KT} {T : Nat → Bool} {st : Stmt} {rest : List Stmt} {t u : TS} {wt wu : Ws} {e : Expr} {te : TE} {we : We} {pos : Pos}
def wSeq (w u : Ws) : Ws := fun O ρ => w { O with nx := u O } ρ
def wNext : Ws := fun O ρ => O.nx ρ
theorem ws_next : WSs K T tNext wNext := fun B G H σ S0 ρ O D R P q kn kr kb kc => kn G H σ ρ .refl R P q
theorem ws_seq (h1 : WSs K T t wt) (h2 : WSs K T u wu) : WSs K T (tSeq t u) (wSeq wt wu) := fun B G H σ S0 ρ O D R P q kn kr kb kc =>
  h1 B G H σ S0 ρ _ _ R P q
    (fun G1 H1 σ1 ρ1 S1 R1 P1 q1 => h2 B G1 H1 σ1 S0 ρ1 O D R1 P1 q1 (fun G2 H2 σ2 ρ2 S2 => kn G2 H2 σ2 ρ2 (S1.trans S2)) (fun G2 H2 σ2 ρ2 v r S2 => kr G2 H2 σ2 ρ2 v r (S1.trans S2)) (fun G2 H2 σ2 ρ2 S2 => kb G2 H2 σ2 ρ2 (S1.trans S2)) (fun G2 H2 σ2 ρ2 S2 => kc G2 H2 σ2 ρ2 (S1.trans S2)))
    kr kb kc
theorem dss_nil : DSs X T [] tNext wNext := ⟨pss_nil, ws_next⟩
theorem dss_cons (h1 : DS X T st t wt) (h2 : DSs X T rest u wu) : DSs X T (st :: rest) (tSeq t u) (wSeq wt wu) := ⟨pss_cons h1.ps h2.pss, ws_seq h1.ws h2.ws⟩
theorem dss_one (h1 : DS X T st t wt) : DSs X T [st] t wt := ⟨pss_one h1.ps, h1.ws⟩
def wBreak : Ws := fun O ρ => O.bk ρ
def wCont : Ws := fun O ρ => O.ct ρ
def wDrop (we : We) : Ws := fun O ρ => we ρ fun _ ρ1 => O.nx ρ1
theorem ds_expr (h : DE X e te we) (hs : swapsWith e none pos.line X.env = pure false := by rfl) : DS X T (.Expr e pos) (tDrop te) (wDrop we) := ⟨ps_expr h.pe hs, fun B G H σ S0 ρ O D R P q kn kr kb kc =>
  h.we B G H σ ρ _ _ R q fun v G1 H1 ρ1 r S1 R1 rr q1 => kn G1 H1 σ ρ1 S1 R1 P q1⟩
def wRet (we : We) : Ws := fun O ρ => we ρ fun r ρ1 => O.rt r ρ1
theorem ds_ret (h : DE X e te we) : DS X T (.Return (some e) pos) (tRet te) (wRet we) := ⟨ps_ret h.pe, fun B G H σ S0 ρ O D R P q kn kr kb kc =>
  h.we B G H σ ρ _ _ R q fun v G1 H1 ρ1 r S1 R1 rr q1 => kr G1 H1 σ ρ1 v r S1 R1 P rr q1⟩
def wRetN : Ws := fun O ρ => O.rt (.dat .non) ρ
variable {c : Expr} {a b : List Stmt} {tc : TT} {wc : Wt}
def wIfS (wc : Wt) (w u : Ws) : Ws := fun O ρ => wc ρ fun b ρ1 => match b with
  | true => w O ρ1
  | false => u O ρ1
theorem ds_if (hc : DT X c tc wc) (ha : DSs X T a t wt) (hb : DSs X T b u wu) : DS X T (.If c a b pos) (tIfS tc t u) (wIfS wc wt wu) := ⟨ps_if hc.pt ha.pss hb.pss, fun B G H σ S0 ρ O D R P q kn kr kb kc =>
  hc.wt B G H σ ρ _ (fun b H1 => if b = true then t D σ H1 else u D σ H1) R q fun b G1 H1 ρ1 S1 R1 q1 => by
    cases b with
    | true => rw [if_pos rfl]; exact ha.ws B G1 H1 σ S0 ρ1 O D R1 P q1 (fun G2 H2 σ2 ρ2 S2 => kn G2 H2 σ2 ρ2 (S1.trans S2)) (fun G2 H2 σ2 ρ2 v r S2 => kr G2 H2 σ2 ρ2 v r (S1.trans S2)) (fun G2 H2 σ2 ρ2 S2 => kb G2 H2 σ2 ρ2 (S1.trans S2)) (fun G2 H2 σ2 ρ2 S2 => kc G2 H2 σ2 ρ2 (S1.trans S2))
    | false => rw [if_neg Bool.false_ne_true]; exact hb.ws B G1 H1 σ S0 ρ1 O D R1 P q1 (fun G2 H2 σ2 ρ2 S2 => kn G2 H2 σ2 ρ2 (S1.trans S2)) (fun G2 H2 σ2 ρ2 v r S2 => kr G2 H2 σ2 ρ2 v r (S1.trans S2)) (fun G2 H2 σ2 ρ2 S2 => kb G2 H2 σ2 ρ2 (S1.trans S2)) (fun G2 H2 σ2 ρ2 S2 => kc G2 H2 σ2 ρ2 (S1.trans S2))⟩
/-! ### stores to a name -/
/-- the slot i takes a result -/
theorem Rep.emp {B : Addr → Prop} {G H : Hp} {σ : L2.St} {ρ : Sl} (R : Rep K B G H σ ρ) (i : Nat) : Rep K B G H σ (ρ.set i .emp) := by
  have get : ∀ (j : Nat) (s : SD), (ρ.set i .emp)[j]? = some s → s ≠ .emp → ρ[j]? = some s := fun j s h hs => by
    by_cases z : j = i
    · subst z
      by_cases hl : j < ρ.length
      · rw [List.getElem?_set_self hl] at h; cases h; exact absurd rfl hs
      · rw [List.getElem?_eq_none (by rw [List.length_set]; omega)] at h; cases h
    · rw [List.getElem?_set_ne (Ne.symm z)] at h; exact h
  refine ⟨R.gh, R.tb, R.z, R.bh, by rw [List.length_set]; exact R.len, fun j d h => R.dat j d (get j _ h (by intro z; cases z)), fun j o h => R.own j o (get j _ h (by intro z; cases z)), fun j k o u p x y z w => R.sep j k o u p (get j _ x (by intro z; cases z)) (get k _ y (by intro z; cases z)) z w⟩
theorem Rep.store {B : Addr → Prop} {G H : Hp} {σ : L2.St} {ρ : Sl} (R : Rep K B G H σ ρ) {i : Nat} {v : V} {s : SD} (hd : ∀ d, s = .dat d → Rp K G v d)
    (ho : ∀ o, s = .own o → ∃ p ho, v = .ref p ∧ H p = some ho ∧ G p = none ∧ ¬ B p ∧ RO K G ho o ∧ ∀ (j : Nat) (u : OD), j ≠ i → ρ[j]? = some (SD.own u) → σ[j]? ≠ some (some (V.ref p))) : Rep K B G H (σ.set i (some v)) (ρ.set i s) := by
  have get : ∀ (j : Nat) (s' : SD), (ρ.set i s)[j]? = some s' → (j = i ∧ s' = s ∧ (σ.set i (some v))[j]? = some (some v)) ∨ (j ≠ i ∧ ρ[j]? = some s' ∧ (σ.set i (some v))[j]? = σ[j]?) := fun j s' h => by
    by_cases z : j = i
    · subst z
      by_cases hl : j < ρ.length
      · rw [List.getElem?_set_self hl] at h; cases h
        exact .inl ⟨rfl, rfl, List.getElem?_set_self (by rw [R.len]; exact hl)⟩
      · rw [List.getElem?_eq_none (by rw [List.length_set]; omega)] at h; cases h
    · rw [List.getElem?_set_ne (Ne.symm z)] at h
      exact .inr ⟨z, h, List.getElem?_set_ne (Ne.symm z)⟩
  refine ⟨R.gh, R.tb, R.z, R.bh, by rw [List.length_set, List.length_set]; exact R.len, fun j d h => ?_, fun j o h => ?_, fun j k o u p x y z w => ?_⟩
  · rcases get j _ h with ⟨rfl, e, g⟩ | ⟨_, e, g⟩
    · exact ⟨v, g, hd d e.symm⟩
    · rw [g]; exact R.dat j d e
  · rcases get j _ h with ⟨rfl, e, g⟩ | ⟨_, e, g⟩
    · obtain ⟨p, hx, rfl, h1, h2, h3, h4, _⟩ := ho o e.symm
      exact ⟨p, hx, g, h1, h2, h3, h4⟩
    · rw [g]; exact R.own j o e
  · rcases get j _ x with ⟨rfl, e, g⟩ | ⟨n, e, g⟩
    · rcases get k _ y with ⟨rfl, e', g'⟩ | ⟨n', e', g'⟩
      · rfl
      · rw [g] at z; cases z
        obtain ⟨p', ho', ep, _, _, _, _, h5⟩ := ho o e.symm
        cases ep
        rw [g'] at w
        exact absurd w (h5 k u n' e')
    · rcases get k _ y with ⟨rfl, e', g'⟩ | ⟨n', e', g'⟩
      · rw [g'] at w; cases w
        obtain ⟨p', ho', ep, _, _, _, _, h5⟩ := ho u e'.symm
        cases ep
        rw [g] at z
        exact absurd z (h5 j o n e)
      · rw [g] at z; rw [g'] at w
        exact R.sep j k o u p e e' z w
/-- a result becomes what a slot holds: a slot's own thing moves -/
def into (r : Rz) (i : Nat) (ρ : Sl) : Option Sl := match r with
  | .dat d => some (ρ.set i (.dat d))
  | .own o => some (ρ.set i (.own o))
  | .bor j => match ρ[j]? with
    | some (.dat d) => some (ρ.set i (.dat d))
    | some (.own o) => if j = i then some ρ else some ((ρ.set j .emp).set i (.own o))
    | _ => none
theorem rep_into {B : Addr → Prop} {G H : Hp} {σ : L2.St} {ρ ρ' : Sl} {i : Nat} {v : V} {r : Rz} (R : Rep K B G H σ ρ) (h : RR K B G H σ ρ v r) (e : into r i ρ = some ρ') : Rep K B G H (σ.set i (some v)) ρ' := by
  cases h with
  | dat q => cases e; exact R.store (fun d z => by cases z; exact q) (fun o z => by cases z)
  | own h1 h2 h3 h4 h5 => cases e; exact R.store (fun d z => by cases z) (fun o z => by cases z; exact ⟨_, _, rfl, h1, h2, h3, h4, fun j u _ hj => h5 j u hj⟩)
  | bor q =>
    rename_i j
    unfold into at e
    cases ej : ρ[j]? with
    | none => simp only [ej] at e; cases e
    | some s =>
      cases s with
      | emp => simp only [ej] at e; cases e
      | dat d =>
        simp only [ej] at e; cases e
        obtain ⟨w, w1, w2⟩ := R.dat _ _ ej
        rw [q] at w1; cases w1
        exact R.store (fun d z => by cases z; exact w2) (fun o z => by cases z)
      | own o =>
        simp only [ej] at e
        obtain ⟨p, ho, w1, h1, h2, h3, h4⟩ := R.own _ _ ej
        rw [q] at w1; cases w1
        by_cases z : j = i
        · rw [if_pos z] at e; cases e
          subst z
          have : σ.set j (some (V.ref p)) = σ := by
            apply List.ext_getElem?
            intro m
            by_cases hm : m = j
            · subst hm
              rw [List.getElem?_set_self (List.getElem?_eq_some_iff.mp q).1, q]
            · rw [List.getElem?_set_ne (Ne.symm hm)]
          rw [this]; exact R
        · rw [if_neg z] at e; cases e
          refine (R.emp j).store (fun d z => by cases z) (fun o' z' => ?_)
          cases z'
          refine ⟨p, ho, rfl, h1, h2, h3, h4, fun m u hm hj hq => ?_⟩
          by_cases hmj : m = j
          · subst hmj
            rw [List.getElem?_set_self (List.getElem?_eq_some_iff.mp ej).1] at hj; cases hj
          · rw [List.getElem?_set_ne (Ne.symm hmj)] at hj
            exact hmj (R.sep m j u o p hj ej hq q)
/-- x = e -/
def wSet (i : Nat) (we : We) : Ws := fun O ρ => we ρ fun r ρ1 => ok (into r i ρ1) O.nx
theorem ws_set {i : Nat} (hi : T i = false) (h : WE K te we) : WSs K T (tAsg te (gName i)) (wSet i we) := fun B G H σ S0 ρ O D R P q kn kr kb kc =>
  h B G H σ ρ _ _ R q fun v G1 H1 ρ1 r S1 R1 rr q1 => by
    obtain ⟨ρ2, e, q1⟩ := ok_some q1
    exact kn G1 H1 _ ρ2 S1 (rep_into R1 rr e) (P.set hi) q1
/-- x = e, e frozen -/
def wSetF (i : Nat) (we : We) : Ws := fun O ρ => we ρ fun r ρ1 => warm r ρ1 ∧ frz [r.cool] ρ1 fun ds ρ2 => match ds with
  | [d] => O.nx (ρ2.set i (.dat d))
  | _ => False
theorem ws_setF {i : Nat} (hi : T i = false) (h : WE K te we) : WSs K T (tAsg te (gName i)) (wSetF i we) := fun B G H σ S0 ρ O D R P q kn kr kb kc =>
  h B G H σ ρ _ _ R q fun v G1 H1 ρ1 r S1 R1 rr ⟨c1, q1⟩ => by
    obtain ⟨G1', S1', R1', rr1', cc, ec⟩ := rr.cool R1 c1
    obtain ⟨⟨ds, ρ2⟩, e, q1⟩ := ok_some q1
    obtain ⟨G2, S2, R2, ra⟩ := frz_all R1' (.cons rr1' cc .nil) e
    match ds, ra, q1 with
    | [d], ra, q1 =>
      obtain ⟨w, e, rw'⟩ := ra.one
      cases e
      exact kn G2 H1 _ _ ((S1.trans S1').trans S2) (R2.store (fun d' z => by cases z; exact rw') (fun o z => by cases z)) (P.set hi) q1
variable {x : Str} {pos' : Pos}
theorem ds_set {i : Nat} (hT : T i = false) (hN : X.N.Nodup) (hi : X.N[i]? = some x) (hx : Loc X.env.scope x) (h : DE X e te we) (hs : swapsWith e (some (.Name x pos')) pos.line X.env = pure false := by rfl) (hf : X.fn x = true ∨ X.env.scope.names.lookup x = some .local := by first | exact .inl rfl | exact .inr rfl | assumption) :
    DS X T (.Assign [.Name x pos'] e pos) (tAsg te (gName i)) (wSet i we) := ⟨ps_set hN hi hx h.pe hs hf, ws_set hT h.we⟩
theorem ds_setF {i : Nat} (hT : T i = false) (hN : X.N.Nodup) (hi : X.N[i]? = some x) (hx : Loc X.env.scope x) (h : DE X e te we) (hs : swapsWith e (some (.Name x pos')) pos.line X.env = pure false := by rfl) (hf : X.fn x = true ∨ X.env.scope.names.lookup x = some .local := by first | exact .inl rfl | exact .inr rfl | assumption) :
    DS X T (.Assign [.Name x pos'] e pos) (tAsg te (gName i)) (wSetF i we) := ⟨ps_set hN hi hx h.pe hs hf, ws_setF hT h.we⟩
/-- a, b = x, y -/
def wPar (i j : Nat) (wa : Wa) : Ws := fun O ρ => wa ρ fun rs ρ1 => frz rs ρ1 fun ds ρ2 => match ds with
  | [d, d'] => O.nx ((ρ2.set i (.dat d)).set j (.dat d'))
  | _ => False
theorem ws_par {i j : Nat} {ta : TA} {wa : Wa} (hi : T i = false) (hj : T j = false) (h : WAa K ta wa) : WSs K T (tPar i j ta) (wPar i j wa) := fun B G H σ S0 ρ O D R P q kn kr kb kc =>
  h B G H σ ρ _ _ R q fun vs G1 H1 ρ1 rs S1 R1 rr q1 => by
    obtain ⟨⟨ds, ρ2⟩, e, q1⟩ := ok_some q1
    obtain ⟨G2, S2, R2, ra⟩ := frz_all R1 rr e
    match ds, ra, q1 with
    | [d, d'], .cons h1 (.cons h2 .nil), q1 =>
      exact ⟨_, _, rfl, kn G2 H1 _ _ (S1.trans S2) ((R2.store (fun d' z => by cases z; exact h1) (fun o z => by cases z)).store (fun d' z => by cases z; exact h2) (fun o z => by cases z)) ((P.set hi).set hj) q1⟩
/-- a, b = x, y where what is made for x, y stays one's own: each result to its slot -/
theorem ds_par {i j : Nat} {x y : Str} {a b : Expr} {ta : TA} {wa : Wa} {px py pt : Pos} {kt k2 pt2} (hTi : T i = false) (hTj : T j = false) (hc : X.calm = true) (hN : X.N.Nodup) (hi : X.N[i]? = some x) (hj : X.N[j]? = some y) (hij : i ≠ j)
    (hx : X.env.scope.names.lookup x = some .local) (hy : X.env.scope.names.lookup y = some .local) (ha : DA X [a, b] ta wa)
    (hw : swappedStores [.Tuple [.Name x px, .Name y py] kt pt] (.Tuple [a, b] k2 pt2) X.env = pure (some [x, y]))
    (hs : swapsWithSole [.Tuple [.Name x px, .Name y py] kt pt] (.Tuple [a, b] k2 pt2) pos.line X.env = pure false := by rfl) :
    DS X T (.Assign [.Tuple [.Name x px, .Name y py] kt pt] (.Tuple [a, b] k2 pt2) pos) (tPar i j ta) (wPar i j wa) := ⟨ps_par hc hN hi hj hij hx hy ha.pa hw hs, ws_par hTi hTj ha.wa⟩
/-! ### targets -/
abbrev Wg := PD → Sl → (Sl → Prop) → Prop
def WGg (K : KT) (T : Nat → Bool) (g : TG) (w : Wg) : Prop := ∀ (B : Addr → Prop) (G H : Hp) (σ S0 : L2.St) (ρ : Sl) (v : V) (d : PD) (Q : Sl → Prop) (QV : L2.St → Hp → Prop), Rep K B G H σ ρ → Pn T S0 σ → Rp K G v d → w d ρ Q →
  (∀ σ' ρ', Rep K B G H σ' ρ' → Pn T S0 σ' → Q ρ' → QV σ' H) → g v σ H QV
def wName (i : Nat) : Wg := fun d ρ Q => Q (ρ.set i (.dat d))
theorem wg_name {i : Nat} (hi : T i = false) : WGg K T (gName i) (wName i) := fun B G H σ S0 ρ v d Q QV R P r q k =>
  k _ _ (R.store (fun d' z => by cases z; exact r) (fun o z => by cases z)) (P.set hi) q
abbrev Wgs := List PD → Sl → (Sl → Prop) → Prop
def WGs (K : KT) (T : Nat → Bool) (g : TGs) (w : Wgs) : Prop := ∀ (B : Addr → Prop) (G H : Hp) (σ S0 : L2.St) (ρ : Sl) (vs : List V) (ds : List PD) (Q : Sl → Prop) (QV : L2.St → Hp → Prop), Rep K B G H σ ρ → Pn T S0 σ → RpAll K G vs ds → w ds ρ Q →
  (∀ σ' ρ', Rep K B G H σ' ρ' → Pn T S0 σ' → Q ρ' → QV σ' H) → g vs σ H QV
def wgNil : Wgs := fun ds ρ Q => match ds with
  | [] => Q ρ
  | _ => False
def wgCons (w : Wg) (u : Wgs) : Wgs := fun ds ρ Q => match ds with
  | d :: ds => w d ρ fun ρ' => u ds ρ' Q
  | [] => False
theorem wgs_nil : WGs K T gNil wgNil := fun B G H σ S0 ρ vs ds Q QV R P r q k => by
  cases r with
  | nil => exact ⟨rfl, k σ ρ R P q⟩
  | cons => exact q.elim
theorem wgs_cons {g : TG} {u : TGs} {w : Wg} {wu : Wgs} (h : WGg K T g w) (h' : WGs K T u wu) : WGs K T (gCons g u) (wgCons w wu) := fun B G H σ S0 ρ vs ds Q QV R P r q k => by
  cases r with
  | nil => exact q.elim
  | cons r rr => exact ⟨_, _, rfl, h B G H σ S0 ρ _ _ _ _ R P r q fun σ' ρ' R' P' q' => h' B G H σ' S0 ρ' _ _ Q QV R' P' rr q' k⟩
def wgTup (n : Nat) (w : Wgs) : Wg := fun d ρ Q => match d with
  | .tup ds => ds.length = n ∧ w ds ρ Q
  | _ => False
theorem wg_tup {n : Nat} {g : TGs} {w : Wgs} (h : WGs K T g w) : WGg K T (gTup K n g) (wgTup n w) := fun B G H σ S0 ρ v d Q QV R P r q k => by
  cases r with
  | tup hs ra => exact ⟨_, _, rfl, ex_t R.gh hs, by rw [ra.length]; exact q.1, h B G H σ S0 ρ _ _ Q QV R P ra q.2 k⟩
  | _ => exact q.elim
structure DG (X : CxT) (T : Nat → Bool) (tg : Expr) (g : TG) (w : Wg) : Prop where
  pg : PG X tg g
  wg : WGg X.K T g w
structure DGs (X : CxT) (T : Nat → Bool) (tg : List Expr) (g : TGs) (w : Wgs) : Prop where
  pgs : PGs X tg g
  wgs : WGs X.K T g w
theorem dg_name {i : Nat} (hT : T i = false) (hN : X.N.Nodup) (hi : X.N[i]? = some x) (hx : Loc X.env.scope x) (hf : X.fn x = true ∨ X.env.scope.names.lookup x = some .local := by first | exact .inl rfl | exact .inr rfl | assumption) : DG X T (.Name x pos) (gName i) (wName i) := ⟨pg_name hN hi hx hf, wg_name hT⟩
theorem dgs_nil : DGs X T [] gNil wgNil := ⟨pgs_nil, wgs_nil⟩
theorem dgs_cons {e : Expr} {es : List Expr} {g : TG} {u : TGs} {w : Wg} {wu : Wgs} (h : DG X T e g w) (h' : DGs X T es u wu) (hs : (assignEach (e :: es) X.env).map (·.2) = assign e X.env :: (assignEach es X.env).map (·.2) := by rfl) : DGs X T (e :: es) (gCons g u) (wgCons w wu) := ⟨pgs_cons h.pg h'.pgs hs, wgs_cons h.wg h'.wgs⟩
theorem dg_tup {es : List Expr} {k : Nat} {g : TGs} {w : Wgs} {n : Nat} (hc : X.calm = true) (h : DGs X T es g w) (hn : (assignEach es X.env).length = n := by rfl) (hst : (assignEach es X.env).findIdx? (·.1) = none := by rfl) : DG X T (.Tuple es k pos) (gTup X.K n g) (wgTup n w) := ⟨pg_tup hc h.pgs hn hst, wg_tup h.wgs⟩
/-- (a, b, ..) = e -/
def wUnp (we : We) (wg : Wg) : Ws := fun O ρ => we ρ fun r ρ1 => warm r ρ1 ∧ frz [r.cool] ρ1 fun ds ρ2 => match ds with
  | [d] => wg d ρ2 O.nx
  | _ => False
theorem ws_unp {g : TG} {w : Wg} (h : WE K te we) (hg : WGg K T g w) : WSs K T (tAsg te g) (wUnp we w) := fun B G H σ S0 ρ O D R P q kn kr kb kc =>
  h B G H σ ρ _ _ R q fun v G1 H1 ρ1 r S1 R1 rr ⟨c1, q1⟩ => by
    obtain ⟨G1', S1', R1', rr1', cc, ec⟩ := rr.cool R1 c1
    obtain ⟨⟨ds, ρ2⟩, e, q1⟩ := ok_some q1
    obtain ⟨G2, S2, R2, ra⟩ := frz_all R1' (.cons rr1' cc .nil) e
    match ds, ra, q1 with
    | [d], ra, q1 =>
      obtain ⟨w, e, rw'⟩ := ra.one
      cases e
      exact hg B G2 H1 σ S0 ρ2 v d O.nx D.nx R2 P rw' q1 fun σ' ρ' R' P' q' => kn G2 H1 σ' ρ' ((S1.trans S1').trans S2) R' P' q'
theorem ds_unp {tg : Expr} {g : TG} {w : Wg} (h : DE X e te we) (hg : DG X T tg g w) (hs : swapsWithSole [tg] e pos.line X.env = pure false := by rfl) (hw : swappedStores [tg] e X.env = pure none := by rfl) (h1 : (assignEach [tg] X.env).map (·.2) = [assign tg X.env] := by rfl) :
    DS X T (.Assign [tg] e pos) (tAsg te g) (wUnp we w) := ⟨ps_asg h.pe hg.pg hs hw h1, ws_unp h.we hg.wg⟩
/-- xs[i] = e, xs a slot's own list -/
def wSetIx (i : Nat) (we wi : We) : Ws := fun O ρ => we ρ fun r ρ1 => warm r ρ1 ∧ frz [r.cool] ρ1 fun ds ρ2 => ownL i ρ2 fun _ => wi ρ2 fun ri ρ3 => match ds, ri with
  | [d], .dat (.int k) => ownL i ρ3 fun xs => ok (ixN xs.length k) fun j => O.nx (ρ3.set i (.own (.lst (xs.set j d))))
  | _, _ => False
theorem ws_setIx {i : Nat} {ti : TE} {wi : We} (h : WE K te we) (h' : WE K ti wi) : WSs K T (tAsg te (gSub (tVar i) ti rSetL)) (wSetIx i we wi) := fun B G H σ S0 ρ O D R P q kn kr kb kc =>
  h B G H σ ρ _ _ R q fun v G1 H1 ρ1 r S1 R1 rr ⟨c1, q1⟩ => by
    obtain ⟨G1', S1', R1', rr1', cc, ec⟩ := rr.cool R1 c1
    obtain ⟨⟨ds, ρ2⟩, e, q1⟩ := ok_some q1
    obtain ⟨G2, S2, R2, ra⟩ := frz_all R1' (.cons rr1' cc .nil) e
    obtain ⟨xs0, e0, q1⟩ := ownL_of q1
    obtain ⟨p, vs0, hs, _, _⟩ := R2.lst e0
    refine ⟨_, hs, ?_⟩
    refine h' B G2 H1 σ ρ2 _ _ R2 q1 fun u G3 H3 ρ3 ri S3 R3 rr3 q3 => ?_
    match ds, ri, ra, rr3, q3 with
    | [d], .dat (.int k), ra, .dat (.int _), q3 =>
      obtain ⟨w, ew, rw'⟩ := ra.one
      cases ew
      obtain ⟨xs, e2, q3⟩ := ownL_of q3
      obtain ⟨j, ej, q3⟩ := ok_some q3
      obtain ⟨p', vs, hs', hp, r'⟩ := R3.lst e2
      rw [hs] at hs'; cases hs'
      obtain ⟨R4, S4⟩ := R3.write (ho' := .lst (vs.set j v)) e2 hs (.lst (r'.set (rw'.mono S3.g) j))
      exact ⟨p, vs, k, j, rfl, rfl, hp, by rw [r'.length]; exact ej, kn G3 _ σ _ ((((S1.trans S1').trans S2).trans S3).trans S4) R4 P q3⟩
variable {o i0 : Expr}
theorem ds_setIx {i : Nat} {ti : TE} {wi : We} {p2 : Pos} (h : DE X e te we) (ho : DE X (.Name x p2) (tVar i) (wVar i)) (h' : DE X i0 ti wi) (ha : ∀ v, assign (.Subscript (.Name x p2) i0 pos') X.env v = (do
      let ov ← holding [v] (eval (.Name x p2) X.env)
      let iv ← holding [v, ov] (eval i0 X.env)
      standAt pos'
      holding [v, ov, iv] (setItem ov iv v)
      release [v, ov, iv] []) := by intro _; rfl) (hs : swapsWithSole [.Subscript (.Name x p2) i0 pos'] e pos.line X.env = pure false := by rfl) (hw : swappedStores [.Subscript (.Name x p2) i0 pos'] e X.env = pure none := by rfl) (h1 : (assignEach [.Subscript (.Name x p2) i0 pos'] X.env).map (·.2) = [assign (.Subscript (.Name x p2) i0 pos') X.env] := by rfl) :
    DS X T (.Assign [.Subscript (.Name x p2) i0 pos'] e pos) (tAsg te (gSub (tVar i) ti rSetL)) (wSetIx i we wi) := ⟨ps_asg h.pe (pg_sub ho.pe h'.pe set_list ha) hs hw h1, ws_setIx h.we h'.we⟩
end
end DL

set_option Elab.async false
set_option linter.all false
set_option maxRecDepth 100000
set_option maxHeartbeats 2000000
namespace DL
open PySem L2
section
variable {X : CxT} {K : KT} {T : Nat → Bool} {e : Expr} {es : List Expr} {te : TE} {t : TA} {we : We} {wr : Wa} {pos : Pos}
/-! ### results that stay one's own: a, b = x, y -/
def adr (v : V) (r : Rz) (a : Addr) : Prop := ∃ o, r = .own o ∧ v = .ref a
inductive RRh (K : KT) (G H : Hp) (σ : L2.St) (ρ : Sl) : (Addr → Prop) → List V → List Rz → Prop
  | nil {B : Addr → Prop} : RRh K G H σ ρ B [] []
  | cons {B : Addr → Prop} {v : V} {vs : List V} {r : Rz} {rs : List Rz} : RR K B G H σ ρ v r → RRh K G H σ ρ (fun a => B a ∨ adr v r a) vs rs → RRh K G H σ ρ B (v :: vs) (r :: rs)
def WAh (K : KT) (ta : TA) (w : Wa) : Prop := ∀ (B : Addr → Prop) (G H : Hp) (σ : L2.St) (ρ : Sl) (Q : List Rz → Sl → Prop) (QV : List V → Hp → Prop), Rep K B G H σ ρ → w ρ Q →
  (∀ vs G' H' ρ' rs, Stp B G H G' H' → Rep K B G' H' σ ρ' → RRh K G' H' σ ρ' B vs rs → Q rs ρ' → QV vs H') → ta σ H QV
def wConsH (we : We) (wr : Wa) : Wa := fun ρ Q => we ρ fun r ρ1 => wr ρ1 fun rs ρ2 => Q (r :: rs) ρ2
theorem Rep.weak {B B' : Addr → Prop} {G H : Hp} {σ : L2.St} {ρ : Sl} (R : Rep K B' G H σ ρ) (b0 : ∀ a, K.B0 a → B a) (w : ∀ a, B a → B' a) : Rep K B G H σ ρ :=
  ⟨R.gh, R.tb, ⟨b0, R.z.s, R.z.m, R.z.m2⟩, fun a h => R.bh a (w a h), R.len, R.dat, fun i o h => let ⟨p, ho, h1, h2, h3, h4, h5⟩ := R.own i o h; ⟨p, ho, h1, h2, h3, fun z => h4 (w p z), h5⟩, R.sep⟩
/-- a temporary is kept while others are reckoned -/
theorem Rep.keep {B : Addr → Prop} {G H : Hp} {σ : L2.St} {ρ : Sl} {v : V} {r : Rz} (R : Rep K B G H σ ρ) (h : RR K B G H σ ρ v r) : Rep K (fun a => B a ∨ adr v r a) G H σ ρ := by
  refine ⟨R.gh, R.tb, R.z.more fun _ z => .inl z, fun a ha => ?_, R.len, R.dat, fun i o hi => ?_, R.sep⟩
  · rcases ha with ha | ⟨o, rfl, rfl⟩
    · exact R.bh a ha
    · cases h with
      | own h1 _ _ h4 => exact ⟨_, h1, h4.nt⟩
  · obtain ⟨p, ho, h1, h2, h3, h4, h5⟩ := R.own i o hi
    refine ⟨p, ho, h1, h2, h3, fun z => ?_, h5⟩
    rcases z with z | ⟨u, rfl, rfl⟩
    · exact h4 z
    · cases h with
      | own _ _ _ _ g5 => exact g5 i o hi h1
theorem RR.kept {B : Addr → Prop} {G H G' H' : Hp} {σ : L2.St} {ρ ρ' : Sl} {v : V} {r : Rz} (h : RR K B G H σ ρ v r) (S : Stp (fun a => B a ∨ adr v r a) G H G' H') (R' : Rep K (fun a => B a ∨ adr v r a) G' H' σ ρ') : RR K B G' H' σ ρ' v r := by
  cases h with
  | dat q => exact .dat (q.mono S.g)
  | bor q => exact .bor q
  | own h1 h2 h3 h4 h5 =>
    refine .own (S.h _ _ (.inr ⟨_, rfl, rfl⟩) h1 h4.nt) ((S.n _ _ (.inr ⟨_, rfl, rfl⟩) h1 h4.ow).trans h2) h3 (h4.mono S.g) fun i u hi hz => ?_
    obtain ⟨q, hq, g1, g2, g3, g4, g5⟩ := R'.own i u hi
    rw [hz] at g1; cases g1
    exact g4 (.inr ⟨_, rfl, rfl⟩)
theorem wah_nil : WAh K tNil wNil := fun B G H σ ρ Q QV R q k => k [] G H ρ [] .refl R .nil q
theorem wah_cons (he : WE K te we) (hr : WAh K t wr) : WAh K (tCons te t) (wConsH we wr) := fun B G H σ ρ Q QV R q k =>
  he B G H σ ρ _ _ R q fun v G1 H1 ρ1 r S1 R1 rr q1 => by
    refine hr _ G1 H1 σ ρ1 _ _ (R1.keep rr) q1 fun vs G2 H2 ρ2 rs S2 R2 rrs q2 => ?_
    exact k (v :: vs) G2 H2 ρ2 (r :: rs) (S1.trans (S2.weak fun _ z => .inl z)) (R2.weak R.z.b fun _ z => .inl z) (.cons (rr.kept S2 R2) rrs) q2
structure DAh (X : CxT) (es : List Expr) (ta : TA) (w : Wa) : Prop where
  pa : PA X es ta
  wa : WAh X.K ta w
theorem dah_nil : DAh X [] tNil wNil := ⟨pa_nil, wah_nil⟩
theorem dah_cons (he : DE X e te we) (hr : DAh X es t wr) (hs : starEach (e :: es) X.env = (false, eval e X.env) :: starEach es X.env := by rfl) : DAh X (e :: es) (tCons te t) (wConsH we wr) := ⟨pa_cons he.pe hr.pa hs, wah_cons he.we hr.wa⟩
/-- the slots take the results, one after another; none is a slot's thing -/
def Rz.sd : Rz → Option SD
  | .dat d => some (.dat d)
  | .own o => some (.own o)
  | .bor _ => none
def puts : List Nat → List Rz → Sl → Option Sl
  | [], [], ρ => some ρ
  | i :: is, r :: rs, ρ => match r.sd with
    | some s => puts is rs (ρ.set i s)
    | none => none
  | _, _, _ => none
def setAll : List Nat → List V → L2.St → L2.St
  | i :: is, v :: vs, σ => setAll is vs (σ.set i (some v))
  | _, _, σ => σ
theorem RRh.stored {G H : Hp} {σ : L2.St} {ρ : Sl} {i : Nat} {v : V} {r : Rz} {s : SD} (hs : r.sd = some s) : ∀ {vs : List V} {rs : List Rz} {B : Addr → Prop}, (∀ a, adr v r a → B a) → RRh K G H σ ρ B vs rs → (∀ r' ∈ rs, r'.sd ≠ none) → RRh K G H (σ.set i (some v)) (ρ.set i s) B vs rs
  | _, _, _, _, .nil, _ => .nil
  | v' :: vs, r' :: rs, B, hB, .cons h t, hf => by
    refine .cons ?_ (RRh.stored hs (fun a ha => .inl (hB a ha)) t fun r'' hr => hf r'' (List.mem_cons_of_mem _ hr))
    cases h with
    | dat q => exact .dat q
    | bor q => exact absurd rfl (hf _ List.mem_cons_self)
    | own h1 h2 h3 h4 h5 =>
      refine .own h1 h2 h3 h4 fun j u hj hz => ?_
      by_cases z : j = i
      · subst z
        by_cases hl : j < ρ.length
        · rw [List.getElem?_set_self hl] at hj
          cases hj
          by_cases hl2 : j < σ.length
          · rw [List.getElem?_set_self hl2] at hz
            cases hz
            cases r with
            | own o => exact h3 (hB _ ⟨o, rfl, rfl⟩)
            | dat d => cases hs
            | bor k => cases hs
          · rw [List.getElem?_eq_none (by rw [List.length_set]; omega)] at hz; cases hz
        · rw [List.getElem?_eq_none (by rw [List.length_set]; omega)] at hj; cases hj
      · rw [List.getElem?_set_ne (Ne.symm z)] at hj hz
        exact h5 j u hj hz
theorem RRh.weak {G H : Hp} {σ : L2.St} {ρ : Sl} : ∀ {vs : List V} {rs : List Rz} {B B' : Addr → Prop}, RRh K G H σ ρ B' vs rs → (∀ a, B a → B' a) → RRh K G H σ ρ B vs rs
  | _, _, _, _, .nil, _ => .nil
  | _, _, _, _, .cons h t, w => by
    refine .cons ?_ (RRh.weak t fun a z => z.elim (fun z => .inl (w a z)) .inr)
    cases h with
    | dat q => exact .dat q
    | bor q => exact .bor q
    | own h1 h2 h3 h4 h5 => exact .own h1 h2 (fun z => h3 (w _ z)) h4 h5
theorem rep_puts {G H : Hp} : ∀ {is : List Nat} {rs : List Rz} {vs : List V} {B : Addr → Prop} {σ : L2.St} {ρ ρ' : Sl}, Rep K B G H σ ρ → RRh K G H σ ρ B vs rs → puts is rs ρ = some ρ' → Rep K B G H (setAll is vs σ) ρ'
  | [], [], [], _, _, _, _, R, .nil, e => by cases e; exact R
  | i :: is, r :: rs, v :: vs, B, σ, ρ, ρ', R, .cons h t, e => by
    unfold puts at e
    cases es : r.sd with
    | none => simp only [es] at e; cases e
    | some s =>
      simp only [es] at e
      have hf : ∀ (is : List Nat) (rs : List Rz) (ρ : Sl), puts is rs ρ = some ρ' → ∀ r' ∈ rs, r'.sd ≠ none := by
        intro is rs
        induction rs generalizing is with
        | nil => intro ρ _ r' hr; cases hr
        | cons r0 rs ih =>
          intro ρ h r' hr
          cases is with
          | nil => cases h
          | cons i0 is =>
            unfold puts at h
            cases e0 : r0.sd with
            | none => simp only [e0] at h; cases h
            | some s0 =>
              simp only [e0] at h
              rcases List.mem_cons.mp hr with rfl | hr
              · rw [e0]; intro z; cases z
              · exact ih is _ h r' hr
      have hf' := hf is rs _ e
      have R2 : Rep K B G H (σ.set i (some v)) (ρ.set i s) := by
        cases h with
        | dat q => cases es; exact R.store (fun d z => by cases z; exact q) (fun o z => by cases z)
        | own h1 h2 h3 h4 h5 => cases es; exact R.store (fun d z => by cases z) (fun o z => by cases z; exact ⟨_, _, rfl, h1, h2, h3, h4, fun j u _ hj => h5 j u hj⟩)
        | bor q => cases es
      have t2 := RRh.stored (i := i) es (fun a ha => .inr ha) t hf'
      show Rep K B G H (setAll is vs (σ.set i (some v))) ρ'
      exact rep_puts (is := is) (rs := rs) R2 (t2.weak fun a z => Or.inl z) e
/-- a, b = x, y; a, b, c = x, y, z -/
def wPuts (is : List Nat) (wa : Wa) : Ws := fun O ρ => wa ρ fun rs ρ1 => ok (puts is rs ρ1) O.nx
theorem puts_len : ∀ {is : List Nat} {rs : List Rz} {ρ ρ' : Sl}, puts is rs ρ = some ρ' → rs.length = is.length := by
  intro is
  induction is with
  | nil => intro rs ρ ρ' h; cases rs with | nil => rfl | cons => cases h
  | cons i is ih =>
    intro rs ρ ρ' h
    cases rs with
    | nil => cases h
    | cons r rs =>
      unfold puts at h
      cases e : r.sd with
      | none => simp only [e] at h; cases h
      | some s => simp only [e] at h; rw [List.length_cons, List.length_cons, ih h]
theorem RRh.length {G H : Hp} {σ : L2.St} {ρ : Sl} : ∀ {vs : List V} {rs : List Rz} {B : Addr → Prop}, RRh K G H σ ρ B vs rs → vs.length = rs.length
  | _, _, _, .nil => rfl
  | _, _, _, .cons _ t => congrArg (· + 1) t.length
theorem Pn.setAll {S0 : L2.St} : ∀ {is : List Nat} {vs : List V} {σ : L2.St}, Pn T S0 σ → is.all (fun i => !T i) = true → Pn T S0 (setAll is vs σ)
  | [], _, _, P, _ => P
  | _ :: _, [], _, P, _ => P
  | i :: is, v :: vs, σ, P, h => by
    rw [List.all_cons, Bool.and_eq_true] at h
    exact Pn.setAll (is := is) (vs := vs) (P.set (by simpa using h.1)) h.2
theorem ws_puts2 {i j : Nat} {ta : TA} {wa : Wa} (hi : [i, j].all (fun i => !T i) = true) (h : WAh K ta wa) : WSs K T (tPar i j ta) (wPuts [i, j] wa) := fun B G H σ S0 ρ O D R P q kn kr kb kc =>
  h B G H σ ρ _ _ R q fun vs G1 H1 ρ1 rs S1 R1 rr q1 => by
    obtain ⟨ρ2, e, q1⟩ := ok_some q1
    have R2 := rep_puts R1 rr e
    have hl := rr.length.trans (puts_len e)
    match vs, hl, R2 with
    | [v, w], _, R2 => exact ⟨v, w, rfl, kn G1 H1 _ ρ2 S1 R2 (P.setAll (vs := [v, w]) hi) q1⟩
theorem ds_puts2 {i j : Nat} {x y : Str} {a b : Expr} {ta : TA} {wa : Wa} {px py pt : Pos} {kt k2 pt2} (hT : [i, j].all (fun i => !T i) = true) (hc : X.calm = true) (hN : X.N.Nodup) (hi : X.N[i]? = some x) (hj : X.N[j]? = some y) (hij : i ≠ j)
    (hx : X.env.scope.names.lookup x = some .local) (hy : X.env.scope.names.lookup y = some .local) (ha : DAh X [a, b] ta wa)
    (hw : swappedStores [.Tuple [.Name x px, .Name y py] kt pt] (.Tuple [a, b] k2 pt2) X.env = pure (some [x, y]))
    (hs : swapsWithSole [.Tuple [.Name x px, .Name y py] kt pt] (.Tuple [a, b] k2 pt2) pos.line X.env = pure false := by rfl) :
    DS X T (.Assign [.Tuple [.Name x px, .Name y py] kt pt] (.Tuple [a, b] k2 pt2) pos) (tPar i j ta) (wPuts [i, j] wa) := ⟨ps_par hc hN hi hj hij hx hy ha.pa hw hs, ws_puts2 hT ha.wa⟩
end
end DL

set_option Elab.async false
set_option linter.all false
set_option maxRecDepth 100000
set_option maxHeartbeats 2000000
namespace DL
open PySem L2
/-- what an iterator yields, in every later state -/
def ItOk (K : KT) (G0 : Hp) (J : It) (ds : List PD) : Prop := ∀ (B : Addr → Prop) (σ : L2.St) (ρ : Sl) (G H : Hp), Ex G0 G → Rep K B G H σ ρ → (∀ i, ds.length ≤ i → J.stop i H) ∧
  ∀ i d, ds[i]? = some d → J.go i H ∧ ∀ x H', J.yld i H x H' → ∃ G', Stp B G H G' H' ∧ Rep K B G' H' σ ρ ∧ Rp K G' x d
abbrev Wi := Sl → (List PD → Sl → Prop) → Prop
def WIi (K : KT) (wi : TI) (w : Wi) : Prop := ∀ (B : Addr → Prop) (G H : Hp) (σ : L2.St) (ρ : Sl) (Q : List PD → Sl → Prop) (QJ : It → Hp → Prop), Rep K B G H σ ρ → w ρ Q →
  (∀ J G' H' ρ' ds, Stp B G H G' H' → Rep K B G' H' σ ρ' → ItOk K G' J ds → Q ds ρ' → QJ J H') → wi σ H QJ
structure DI (X : CxT) (tg it : Expr) (wi : TI) (w : Wi) : Prop where
  pi : PI X tg it wi
  wi : WIi X.K wi w
section
variable {X : CxT} {K : KT} {T : Nat → Bool} {e tg : Expr} {es : List Expr} {te : TE} {t : TA} {we : We} {wr : Wa} {pos : Pos}
/-! ### over a list or a tuple -/
def iSeq (K : PySem.W.Frag) (tl : TE) : TI := fun σ H R => tl σ H fun x H1 => ∃ a, x = .ref a ∧ (((∃ xs, SqL K H1 a xs) ∧ R (Itl K a) H1) ∨ ((∃ xs, SqT K H1 a xs) ∧ R (Itt K a) H1))
theorem pi_seq {l : Expr} {tl : TE} (hl : PE X l tl) : PI X tg l (iSeq X.K tl) := by
  refine ⟨fun pins s σ H R I h => ?_⟩
  refine thn (hl.run pins s σ H _ I h) fun v s1 ⟨x, H1, I1, r1, q1⟩ => ?_
  obtain ⟨a, e, q⟩ := q1
  subst e
  cases r1
  rcases q with ⟨⟨xs, hq⟩, q⟩ | ⟨⟨xs, hq⟩, q⟩
  · obtain ⟨its, rv, p, hz⟩ := I1.list hq
    refine wpAny_pyIter_list p.isList ?_
    refine ⟨s1.heap.objs.size, [s1.heap.objs.size], _, _, H1, rfl, I1.kept (t' := s1.toks) fun b o e => Heap.get?_push_of_some _ e, turn_list a _, ⟨_, Heap.get?_push_size _ rfl, rfl, rfl⟩, fun b hb => ?_, q⟩
    have e : b = s1.heap.objs.size := by simpa using hb
    subst e
    exact I1.fpOk (Nat.le_refl _) (I1.hok.fresh (Nat.le_refl _))
  · obtain ⟨its, rv, p, hz⟩ := I1.tuple hq
    refine wpAny_pyIter_tuple (show s1.heap.IsTuple a its.toArray from p) ?_
    refine ⟨s1.heap.objs.size, [s1.heap.objs.size], _, _, H1, rfl, I1.kept (t' := s1.toks) fun b o e => Heap.get?_push_of_some _ e, turn_tuple a _, ⟨_, Heap.get?_push_size _ rfl, rfl, rfl⟩, fun b hb => ?_, q⟩
    have e : b = s1.heap.objs.size := by simpa using hb
    subst e
    exact I1.fpOk (Nat.le_refl _) (I1.hok.fresh (Nat.le_refl _))
def items (d : PD) : Option (List PD) := match d with
  | .lst xs => some xs
  | .tup xs => some xs
  | .scr ns => some (ns.map .int)
  | _ => none
def wSeqI (we : We) : Wi := fun ρ Q => we ρ fun r ρ1 => warm r ρ1 ∧ frz [r.cool] ρ1 fun ds ρ2 => match ds with
  | [d] => ok (items d) fun xs => Q xs ρ2
  | _ => False
theorem it_list {G0 : Hp} {a : Addr} {vs : List V} {ds : List PD} (hG : ∀ G H, Ex G0 G → Ex G H → SqL K H a vs) (r : RpAll K G0 vs ds) : ItOk K G0 (Itl K a) ds := fun B σ ρ G H e R => by
  have hq := hG G H e R.gh
  refine ⟨fun i hi => ⟨vs, hq, by rw [r.length]; exact hi⟩, fun i d hd => ?_⟩
  obtain ⟨v, hv, rv⟩ := r.get hd
  refine ⟨⟨vs, v, hq, hv⟩, fun x H' ⟨eH, hx⟩ => ?_⟩
  subst eH
  have := hx vs hq
  rw [hv] at this; cases this
  exact ⟨G, .refl, R, rv.mono e⟩
theorem it_tup {G0 : Hp} {a : Addr} {vs : List V} {ds : List PD} (hG : ∀ G H, Ex G0 G → Ex G H → SqT K H a vs) (r : RpAll K G0 vs ds) : ItOk K G0 (Itt K a) ds := fun B σ ρ G H e R => by
  have hq := hG G H e R.gh
  refine ⟨fun i hi => ⟨vs, hq, by rw [r.length]; exact hi⟩, fun i d hd => ?_⟩
  obtain ⟨v, hv, rv⟩ := r.get hd
  refine ⟨⟨vs, v, hq, hv⟩, fun x H' ⟨eH, hx⟩ => ?_⟩
  subst eH
  have := hx vs hq
  rw [hv] at this; cases this
  exact ⟨G, .refl, R, rv.mono e⟩
theorem wi_seq (h : WE K te we) : WIi K (iSeq K te) (wSeqI we) := fun B G H σ ρ Q QJ R q k =>
  h B G H σ ρ _ _ R q fun v G1 H1 ρ1 r S1 R1 rr ⟨c1, q1⟩ => by
    obtain ⟨G1', S1', R1', rr1', cc, ec⟩ := rr.cool R1 c1
    obtain ⟨⟨ds, ρ2⟩, e, q1⟩ := ok_some q1
    obtain ⟨G2, S2, R2, ra⟩ := frz_all R1' (.cons rr1' cc .nil) e
    match ds, ra, q1 with
    | [d], ra, q1 =>
      obtain ⟨w, ew, rw'⟩ := ra.one
      cases ew
      obtain ⟨xs, ex, q1⟩ := ok_some q1
      have S := (S1.trans S1').trans S2
      cases rw' with
      | lst hg r => cases ex; exact ⟨_, rfl, .inl ⟨⟨_, SqL.of (R2.gh _ _ hg nt_lst)⟩, k _ G2 H1 ρ2 _ S R2 (it_list (fun G' H' e e' => SqL.of (e' _ _ (e _ _ hg nt_lst) nt_lst)) r) q1⟩⟩
      | tup hg r => cases ex; exact ⟨_, rfl, .inr ⟨⟨_, ex_t R2.gh hg⟩, k _ G2 H1 ρ2 _ S R2 (it_tup (fun G' H' e e' => ex_t e' (ex_t e hg)) r) q1⟩⟩
      | scr hg => cases ex; exact ⟨_, rfl, .inl ⟨⟨_, ex_l R2.gh hg⟩, k _ G2 H1 ρ2 _ S R2 (it_list (fun G' H' e e' => ex_l e' (ex_l e hg)) (rp_ints _)) q1⟩⟩
      | _ => cases ex
theorem di_seq {l : Expr} (h : DE X l te we) : DI X tg l (iSeq X.K te) (wSeqI we) := ⟨pi_seq h.pe, wi_seq h.we⟩
/-! ### over a range -/
def rgP (lo : Int) (n : Nat) : List PD := (List.range n).map fun i => PD.int (lo + (i : Nat))
theorem it_range {G0 : Hp} {lo : Int} {n : Nat} : ItOk K G0 (Itr lo n) (rgP lo n) := fun B σ ρ G H e R => by
  have hl : (rgP lo n).length = n := by unfold rgP; rw [List.length_map, List.length_range]
  refine ⟨fun i hi => by rw [hl] at hi; exact hi, fun i d hd => ?_⟩
  unfold rgP at hd
  rw [List.getElem?_map] at hd
  have hi : i < n := by
    refine Classical.byContradiction fun z => ?_
    rw [List.getElem?_eq_none (by rw [List.length_range]; omega)] at hd
    cases hd
  rw [List.getElem?_range hi] at hd
  cases hd
  exact ⟨hi, fun x H' ⟨e1, e2⟩ => by subst e1; subst e2; exact ⟨G, .refl, R, .int _⟩⟩
def wRng1 (wa : Wa) : Wi := fun ρ Q => wa ρ fun rs ρ1 => match rs with
  | [.dat (.int j)] => (-(2 ^ 62) ≤ j ∧ j < 2 ^ 62) ∧ Q (rgP 0 j.toNat) ρ1
  | _ => False
theorem RRs.int1 {B : Addr → Prop} {G H : Hp} {σ : L2.St} {ρ : Sl} {vs : List V} {j : Int} (h : RRs K B G H σ ρ vs [.dat (.int j)]) : vs = [.int j] := by
  cases h with | cons h c t => cases t; cases h with | dat q => cases q; rfl
theorem RRs.int2 {B : Addr → Prop} {G H : Hp} {σ : L2.St} {ρ : Sl} {vs : List V} {i j : Int} (h : RRs K B G H σ ρ vs [.dat (.int i), .dat (.int j)]) : vs = [.int i, .int j] := by
  cases h with
  | cons h c t => cases h with | dat q => cases q; rw [t.int1]
theorem wi_rng1 (h : WAa K t wr) : WIi K (iRng1 t) (wRng1 wr) := fun B G H σ ρ Q QJ R q k =>
  h B G H σ ρ _ _ R q fun vs G1 H1 ρ1 rs S1 R1 rr q1 => by
    match rs, rr, q1 with
    | [.dat (.int j)], rr, ⟨⟨b1, b2⟩, q1⟩ => exact ⟨j, rr.int1, b1, b2, k _ G1 H1 ρ1 _ S1 R1 it_range q1⟩
def wRng2 (wa : Wa) : Wi := fun ρ Q => wa ρ fun rs ρ1 => match rs with
  | [.dat (.int i), .dat (.int j)] => (-(2 ^ 62) ≤ i ∧ i < 2 ^ 62 ∧ -(2 ^ 62) ≤ j ∧ j < 2 ^ 62) ∧ Q (rgP i (j - i).toNat) ρ1
  | _ => False
theorem wi_rng2 (h : WAa K t wr) : WIi K (iRng2 t) (wRng2 wr) := fun B G H σ ρ Q QJ R q k =>
  h B G H σ ρ _ _ R q fun vs G1 H1 ρ1 rs S1 R1 rr q1 => by
    match rs, rr, q1 with
    | [.dat (.int i), .dat (.int j)], rr, ⟨b, q1⟩ => exact ⟨i, j, rr.int2, b, k _ G1 H1 ρ1 _ S1 R1 it_range q1⟩
variable {a b : Expr} {p : Pos}
theorem di_rng1 (hg : Gl X "range") (hm : X.mg "range" = none) (ha : DA X [a] t wr) (hs : starEach [a] X.env = [(false, eval a X.env)] := by rfl) : DI X tg (.Call (.Name "range" p) [a] [] pos) (iRng1 t) (wRng1 wr) := ⟨pi_range1 hg hm ha.pa hs, wi_rng1 ha.wa⟩
theorem di_rng2 (hg : Gl X "range") (hm : X.mg "range" = none) (ha : DA X [a, b] t wr) (hs : starEach [a, b] X.env = [(false, eval a X.env), (false, eval b X.env)] := by rfl) (hs2 : starEach [b] X.env = [(false, eval b X.env)] := by rfl) : DI X tg (.Call (.Name "range" p) [a, b] [] pos) (iRng2 t) (wRng2 wr) := ⟨pi_range2 hg hm ha.pa hs hs2, wi_rng2 ha.wa⟩
/-! ### for -/
def forL (wg : Wg) (wb : Ws) : List PD → On → Sl → Prop
  | [], O, ρ => O.nx ρ
  | d :: ds, O, ρ => wg d ρ fun ρ' => wb { nx := forL wg wb ds O, rt := O.rt, bk := O.nx, ct := forL wg wb ds O } ρ'
def wFor (wi : Wi) (wg : Wg) (wb : Ws) : Ws := fun O ρ => wi ρ fun ds ρ1 => forL wg wb ds O ρ1
theorem ws_for {wi : TI} {wI : Wi} {g : TG} {wg : Wg} {tb : TS} {wb : Ws} (hi : WIi K wi wI) (hg : WGg K T g wg) (hb : WSs K T tb wb) : WSs K T (tFor wi g tb) (wFor wI wg wb) := fun B G H σ S0 ρ O D R P q kn kr kb kc =>
  hi B G H σ ρ _ _ R q fun J G1 H1 ρ1 ds S1 R1 it q1 => by
    refine ⟨fun i m σ' H' => m = ds.length - i ∧ i ≤ ds.length ∧ ∃ G' ρ', Stp B G H G' H' ∧ Ex G1 G' ∧ Rep K B G' H' σ' ρ' ∧ Pn T S0 σ' ∧ forL wg wb (ds.drop i) O ρ', ⟨_, rfl, Nat.zero_le _, G1, ρ1, S1, Ex.refl _, R1, P, q1⟩, ?_⟩
    rintro i m σ' H' ⟨rfl, hi, G', ρ', S', e', R', P', q'⟩
    obtain ⟨hstop, hgo⟩ := it B σ' ρ' G' H' e' R'
    by_cases hlt : i < ds.length
    · have hd : ds[i]? = some ds[i] := List.getElem?_eq_getElem hlt
      obtain ⟨go, yl⟩ := hgo i _ hd
      refine .inr ⟨go, fun σ2 H2 => ∃ G2 ρ2, Stp B G H G2 H2 ∧ Ex G1 G2 ∧ Rep K B G2 H2 σ2 ρ2 ∧ Pn T S0 σ2 ∧ forL wg wb (ds.drop (i + 1)) O ρ2, fun σ2 H2 h2 => ⟨_, by omega, rfl, hlt, h2⟩, fun x H2 hy => ?_⟩
      obtain ⟨G2, S2, R2, rx⟩ := yl x H2 hy
      rw [List.drop_eq_getElem_cons hlt] at q'
      have SS := S'.trans S2
      have ee := e'.trans S2.g
      exact hg B G2 H2 σ' S0 ρ' x _ _ _ R2 P' rx q' fun σ3 ρ3 R3 P3 q3 =>
        hb B G2 H2 σ3 S0 ρ3 _ _ R3 P3 q3 (fun G4 H4 σ4 ρ4 S4 R4 P4 q4 => ⟨G4, ρ4, SS.trans S4, ee.trans S4.g, R4, P4, q4⟩) (fun G4 H4 σ4 ρ4 v r S4 => kr G4 H4 σ4 ρ4 v r (SS.trans S4)) (fun G4 H4 σ4 ρ4 S4 => kn G4 H4 σ4 ρ4 (SS.trans S4)) (fun G4 H4 σ4 ρ4 S4 R4 P4 q4 => ⟨G4, ρ4, SS.trans S4, ee.trans S4.g, R4, P4, q4⟩)
    · have e : i = ds.length := by omega
      subst e
      rw [List.drop_length] at q'
      exact .inl ⟨hstop _ (Nat.le_refl _), kn G' H' σ' ρ' S' R' P' q'⟩
theorem ds_for {iter : Expr} {body : List Stmt} {wi : TI} {wI : Wi} {g : TG} {wg : Wg} {tb : TS} {wb : Ws} (hp : PassesOwn (model X.prog X.w) X.A X.env X.xe) (hc : X.calm = true) (hi : DI X tg iter wi wI) (hg : DG X T tg g wg) (hb : DSs X T body tb wb)
    (hs : ∀ x, foldedSetIterable iter X.env x = pure x := by intro _; rfl) : DS X T (.For tg iter body [] pos) (tFor wi g tb) (wFor wI wg wb) := ⟨ps_for hp hc hi.pi hg.pg hb.pss hs, ws_for hi.wi hg.wg hb.ws⟩
/-! ### while: by a number of turns -/
def whileN (wc : Wt) (wb : Ws) : Nat → On → Sl → Prop
  | 0, _, _ => False
  | n + 1, O, ρ => wc ρ fun b ρ1 => match b with
    | true => wb { nx := whileN wc wb n O, rt := O.rt, bk := O.nx, ct := whileN wc wb n O } ρ1
    | false => O.nx ρ1
def wWhile (wc : Wt) (wb : Ws) : Ws := fun O ρ => ∃ n, whileN wc wb n O ρ
end
end DL

set_option Elab.async false
set_option linter.all false
set_option maxRecDepth 100000
set_option maxHeartbeats 2000000
namespace DL
open PySem L2
section
variable {X : CxT} {K : KT} {e tg : Expr} {es : List Expr} {te : TE} {we : We} {pos : Pos}
/-! ### list comprehensions -/
def wipeS (ρ : Sl) : List Nat → Sl
  | [] => ρ
  | v :: vs => (wipeS ρ vs).set v .emp
theorem Rep.forget {B : Addr → Prop} {G H : Hp} {σ : L2.St} {ρ : Sl} (R : Rep K B G H σ ρ) (i : Nat) : Rep K B G H (σ.set i none) (ρ.set i .emp) := by
  have get : ∀ (j : Nat) (s : SD), (ρ.set i .emp)[j]? = some s → s ≠ .emp → ρ[j]? = some s ∧ (σ.set i none)[j]? = σ[j]? := fun j s h hs => by
    by_cases z : j = i
    · subst z
      by_cases hl : j < ρ.length
      · rw [List.getElem?_set_self hl] at h; cases h; exact absurd rfl hs
      · rw [List.getElem?_eq_none (by rw [List.length_set]; omega)] at h; cases h
    · rw [List.getElem?_set_ne (Ne.symm z)] at h; exact ⟨h, List.getElem?_set_ne (Ne.symm z)⟩
  refine ⟨R.gh, R.tb, R.z, R.bh, by rw [List.length_set, List.length_set]; exact R.len, fun j d h => ?_, fun j o h => ?_, fun j k o u p x y z w => ?_⟩
  · obtain ⟨a, b⟩ := get j _ h (by intro z; cases z)
    rw [b]; exact R.dat j d a
  · obtain ⟨a, b⟩ := get j _ h (by intro z; cases z)
    rw [b]; exact R.own j o a
  · obtain ⟨a, b⟩ := get j _ x (by intro z; cases z)
    obtain ⟨c, d⟩ := get k _ y (by intro z; cases z)
    rw [b] at z; rw [d] at w
    exact R.sep j k o u p a c z w
theorem Rep.wipe {B : Addr → Prop} {G H : Hp} {σ : L2.St} {ρ : Sl} (R : Rep K B G H σ ρ) : ∀ vs : List Nat, Rep K B G H (L2.wipe σ vs) (wipeS ρ vs)
  | [] => R
  | v :: vs => (Rep.wipe R vs).forget v
/-- the slots of the comprehension's own names get back what they held -/
def restore (ρ0 : Sl) : List Nat → Sl → Sl
  | [], ρ => ρ
  | v :: vs, ρ => restore ρ0 vs (ρ.set v (ρ0.getD v .emp))
def noOwn (ρ0 : Sl) (vs : List Nat) : Bool := vs.all fun v => match ρ0[v]? with
  | some (.own _) => false
  | _ => true
theorem Rep.restore {B B0 : Addr → Prop} {G G0 H0 H : Hp} {σ : L2.St} {ρ0 : Sl} (R0 : Rep K B0 G0 H0 σ ρ0) (e : Ex G0 G) : ∀ {vs : List Nat} {ρ : Sl}, vs.Nodup → noOwn ρ0 vs = true → Rep K B G H (L2.wipe σ vs) ρ → Rep K B G H σ (DL.restore ρ0 vs ρ)
  | [], ρ, _, _, R => R
  | v :: vs, ρ, nd, no, R => by
    have nd' := List.nodup_cons.mp nd
    have no' := Bool.and_eq_true_iff.mp (show ((match ρ0[v]? with | some (.own _) => false | _ => true) && noOwn ρ0 vs) = true from no)
    show Rep K B G H σ (DL.restore ρ0 vs (ρ.set v (ρ0.getD v .emp)))
    refine Rep.restore (vs := vs) R0 e nd'.2 no'.2 ?_
    have R : Rep K B G H ((L2.wipe σ vs).set v none) ρ := R
    have hv : ∀ x, σ[v]? = some (some x) → (L2.wipe σ vs)[v]? = some (some x) := fun x hx => by
      have wk : ∀ (ws : List Nat), v ∉ ws → (L2.wipe σ ws)[v]? = σ[v]? := by
        intro ws
        induction ws with
        | nil => intro _; rfl
        | cons w ws ih =>
          intro hm
          rw [List.mem_cons, not_or] at hm
          show ((L2.wipe σ ws).set w none)[v]? = _
          rw [List.getElem?_set_ne (Ne.symm hm.1)]
          exact ih hm.2
      rw [wk vs nd'.1, hx]
    have other : ∀ j, j ≠ v → ((L2.wipe σ vs).set v none)[j]? = (L2.wipe σ vs)[j]? := fun j hj => List.getElem?_set_ne (Ne.symm hj)
    have lenW : (L2.wipe σ vs).length = ρ.length := by rw [← R.len, List.length_set]
    -- what the slot v holds again
    cases hs : ρ0.getD v SD.emp with
    | own o =>
      exfalso
      rw [List.getD_eq_getElem?_getD] at hs
      cases h0 : ρ0[v]? with
      | none => rw [h0] at hs; cases hs
      | some s => rw [h0] at hs; have hs : s = SD.own o := hs; subst hs; have := no'.1; rw [h0] at this; cases this
    | emp =>
      have get : ∀ (j : Nat) (s : SD), (ρ.set v SD.emp)[j]? = some s → s ≠ .emp → j ≠ v ∧ ρ[j]? = some s := fun j s h hne => by
        by_cases z : j = v
        · subst z
          by_cases hl : j < ρ.length
          · rw [List.getElem?_set_self hl] at h; cases h; exact absurd rfl hne
          · rw [List.getElem?_eq_none (by rw [List.length_set]; omega)] at h; cases h
        · rw [List.getElem?_set_ne (Ne.symm z)] at h; exact ⟨z, h⟩
      refine ⟨R.gh, R.tb, R.z, R.bh, by rw [List.length_set]; exact lenW, fun j d h => ?_, fun j o h => ?_, fun j k o u p x y z w => ?_⟩
      · obtain ⟨a, b⟩ := get j _ h (by intro z; cases z)
        rw [← other j a]; exact R.dat j d b
      · obtain ⟨a, b⟩ := get j _ h (by intro z; cases z)
        rw [← other j a]; exact R.own j o b
      · obtain ⟨a, b⟩ := get j _ x (by intro z; cases z)
        obtain ⟨c, d⟩ := get k _ y (by intro z; cases z)
        rw [← other j a] at z; rw [← other k c] at w
        exact R.sep j k o u p b d z w
    | dat d =>
      obtain ⟨x, hx, rx⟩ : ∃ x, σ[v]? = some (some x) ∧ Rp K G0 x d := by
        rw [List.getD_eq_getElem?_getD] at hs
        cases h0 : ρ0[v]? with
        | none => rw [h0] at hs; cases hs
        | some s => rw [h0] at hs; have hs : s = SD.dat d := hs; subst hs; exact R0.dat v d h0
      have st := (R.store (i := v) (v := x) (s := .dat d) (fun d' z => by cases z; exact rx.mono e) (fun o z => by cases z))
      have : (((L2.wipe σ vs).set v none).set v (some x)) = L2.wipe σ vs := by
        apply List.ext_getElem?
        intro m
        by_cases hm : m = v
        · subst hm
          have := hv x hx
          rw [List.getElem?_set_self (by rw [List.length_set]; exact (List.getElem?_eq_some_iff.mp this).1), this]
        · rw [List.getElem?_set_ne (Ne.symm hm), List.getElem?_set_ne (Ne.symm hm)]
      rw [this] at st
      exact st
/-- a target stores only to these slots -/
def GOnly (vs : List Nat) (g : TG) : Prop := ∀ (v : V) (σ : L2.St) (H : Hp) (Q Q' : L2.St → Hp → Prop), (∀ σ' H', L2.wipe σ' vs = L2.wipe σ vs → Q σ' H' → Q' σ' H') → g v σ H Q → g v σ H Q'
def GsOnly (vs : List Nat) (g : TGs) : Prop := ∀ (xs : List V) (σ : L2.St) (H : Hp) (Q Q' : L2.St → Hp → Prop), (∀ σ' H', L2.wipe σ' vs = L2.wipe σ vs → Q σ' H' → Q' σ' H') → g xs σ H Q → g xs σ H Q'
theorem wipe_get {σ : L2.St} {j : Nat} : ∀ {vs : List Nat}, j ∉ vs → (L2.wipe σ vs)[j]? = σ[j]?
  | [], _ => rfl
  | v :: vs, h => by
    rw [List.mem_cons, not_or] at h
    show ((L2.wipe σ vs).set v none)[j]? = _
    rw [List.getElem?_set_ne (Ne.symm h.1)]
    exact wipe_get h.2
theorem wipe_in {σ : L2.St} {j : Nat} : ∀ {vs : List Nat}, j ∈ vs → (L2.wipe σ vs)[j]? = if j < σ.length then some none else none
  | v :: vs, h => by
    show ((L2.wipe σ vs).set v none)[j]? = _
    by_cases z : v = j
    · subst z
      by_cases hl : v < σ.length
      · rw [if_pos hl, List.getElem?_set_self (by rw [L2.wipe_length]; exact hl)]
      · rw [if_neg hl, List.getElem?_eq_none (by rw [List.length_set, L2.wipe_length]; omega)]
    · rw [List.getElem?_set_ne z]
      exact wipe_in ((List.mem_cons.mp h).resolve_left fun e => z e.symm)
theorem wipe_set {σ : L2.St} {i : Nat} {x : Option V} {vs : List Nat} (h : i ∈ vs) : L2.wipe (σ.set i x) vs = L2.wipe σ vs := by
  apply List.ext_getElem?
  intro j
  by_cases hj : j ∈ vs
  · rw [wipe_in hj, wipe_in hj, List.length_set]
  · rw [wipe_get hj, wipe_get hj, List.getElem?_set_ne (fun z => hj (by rw [← z]; exact h))]
theorem wipe_wipe {σ : L2.St} {vs : List Nat} : L2.wipe (L2.wipe σ vs) vs = L2.wipe σ vs := by
  apply List.ext_getElem?
  intro j
  by_cases hj : j ∈ vs
  · rw [wipe_in hj, wipe_in hj, L2.wipe_length]
  · rw [wipe_get hj]
theorem go_name {vs : List Nat} {i : Nat} (h : i ∈ vs) : GOnly vs (gName i) := fun v σ H Q Q' k q => k _ _ (wipe_set h) q
theorem gos_nil {vs : List Nat} : GsOnly vs gNil := fun xs σ H Q Q' k q => ⟨q.1, k _ _ rfl q.2⟩
theorem gos_cons {vs : List Nat} {g : TG} {u : TGs} (h : GOnly vs g) (h' : GsOnly vs u) : GsOnly vs (gCons g u) := fun xs σ H Q Q' k ⟨v, r, e, q⟩ =>
  ⟨v, r, e, h v σ H _ _ (fun σ1 H1 w1 q1 => h' r σ1 H1 _ _ (fun σ2 H2 w2 q2 => k σ2 H2 (w2.trans w1) q2) q1) q⟩
theorem go_tup {vs : List Nat} {n : Nat} {u : TGs} (h : GsOnly vs u) : GOnly vs (gTup K n u) := fun v σ H Q Q' k ⟨a, xs, e, hs, hl, q⟩ => ⟨a, xs, e, hs, hl, h xs σ H _ _ k q⟩
/-- a change at an address that is nobody's -/
theorem Rep.aside {B : Addr → Prop} {G H : Hp} {σ : L2.St} {ρ : Sl} {p : Addr} {o : HO} (R : Rep K B G H σ ρ) (hp : H p = none ∨ ∃ vs, H p = some (.lst vs)) (hg : G p = none) (hb : ¬ B p) (hs : ∀ (i : Nat) (u : OD), ρ[i]? = some (SD.own u) → σ[i]? ≠ some (some (V.ref p))) : Rep K B G (upd H p o) σ ρ := by
  refine ⟨R.gh.right hg, by
    rcases hp with hp | ⟨vs, hp⟩
    · exact R.tb.new hp
    · exact R.tb.put hp nt_lst (fun _ _ z => by unfold LamX.CodeO at z; cases z), R.z.step ⟨Ex.refl G, fun _ _ h => h, fun _ _ h => h, fun a u ha h _ => by rw [upd_ne (nb_ne hb ha)]; exact h, fun _ _ _ _ _ => rfl⟩, fun a ha => ?_, R.len, R.dat, fun i u hi => ?_, R.sep⟩
  · exact (R.bh a ha).upd (nb_ne hb ha)
  · obtain ⟨q, hq, h1, h2, h3, h4, h5⟩ := R.own i u hi
    have ne : q ≠ p := fun z => hs i u hi (by rw [h1, z])
    exact ⟨q, hq, h1, by rw [upd_ne ne]; exact h2, h3, h4, h5⟩
def compL (vs : List Nat) (wg : Wg) (wt : Wt) (we : We) : List PD → List PD → (List PD → Sl → Prop) → Sl → Prop
  | [], acc, Q, ρ => Q acc ρ
  | d :: ds, acc, Q, ρ => wg d ρ fun ρ1 => wt ρ1 fun b ρ2 => match b with
    | true => we ρ2 fun r ρ3 => warm r ρ3 ∧ frz [r.cool] ρ3 fun es ρ4 => match es with
      | [y] => acc.length < sizeLine ∧ compL vs wg wt we ds (acc ++ [y]) Q (wipeS ρ4 vs)
      | _ => False
    | false => compL vs wg wt we ds acc Q (wipeS ρ2 vs)
def wLc (vs : List Nat) (wi : Wi) (wg : Wg) (wt : Wt) (we : We) : We := fun ρ Q => wi ρ fun ds ρ1 => noOwn ρ1 vs = true ∧ compL vs wg wt we ds [] (fun acc ρ2 => Q (.own (.lst acc)) (restore ρ1 vs ρ2)) (wipeS ρ1 vs)
def T0 : Nat → Bool := fun _ => false
theorem pn0 {S0 σ : L2.St} : Pn T0 S0 σ := fun _ h => by cases h
theorem we_lc {vs : List Nat} {wi : TI} {wI : Wi} {g : TG} {wg : Wg} {tt : TT} {wt : Wt} (hv : vs.Nodup) (hi : WIi K wi wI) (hg : WGg K T0 g wg) (ho : GOnly vs g) (ht : WTt K tt wt) (he : WE K te we) : WE K (tLc wi g tt te vs) (wLc vs wI wg wt we) := fun B G H σ ρ Q QV R q k =>
  hi B G H σ ρ _ _ R q fun J G1 H1 ρ1 ds S1 R1 it ⟨no, q1⟩ => by
    intro D hD
    have gD : G1 D = none := R1.gh.free R1.tb hD
    have nB : ¬ B D := fun z => (R1.bh D z).no hD
    have nS : ∀ (i : Nat) (u : OD), ρ1[i]? = some (SD.own u) → σ[i]? ≠ some (some (V.ref D)) := fun i u hi hz => by
      obtain ⟨q, hq, h1, h2, _⟩ := R1.own i u hi
      rw [hz] at h1; cases h1; rw [hD] at h2; cases h2
    have R1' : Rep K B G1 (upd H1 D (.lst [])) σ ρ1 := R1.aside (.inl hD) gD nB nS
    -- what stands between two turns
    let Inv : List PD → Nat → Hp → Prop := fun acc i H' => ∃ G' ρ' vals, Stp B G H G' H' ∧ Ex G1 G' ∧ Rep K B G' H' (L2.wipe σ vs) ρ' ∧ H' D = some (.lst vals) ∧ G' D = none ∧ RpAll K G' vals acc ∧
      (∀ (i : Nat) (u : OD), ρ'[i]? = some (SD.own u) → (L2.wipe σ vs)[i]? ≠ some (some (V.ref D))) ∧ compL vs wg wt we (ds.drop i) acc (fun acc ρ2 => Q (.own (.lst acc)) (restore ρ1 vs ρ2)) ρ'
    refine ⟨fun i m H' => m = ds.length - i ∧ i ≤ ds.length ∧ ∃ acc, Inv acc i H', ⟨_, rfl, Nat.zero_le _, [], G1, wipeS ρ1 vs, [], S1.trans ⟨Ex.refl _, fun _ _ h => h, fun _ _ h => h, fun a o hb h _ => by rw [upd_ne (nb_ne nB hb)]; exact h, fun _ _ _ _ _ => rfl⟩, Ex.refl _, R1'.wipe vs, upd_same, gD, .nil, fun i u hi hz => ?_, q1⟩, ?_⟩
    · obtain ⟨q, hq, h1, h2, h3, h4, h5⟩ := (R1'.wipe vs).own i u hi
      obtain ⟨q', hq', g1, g2, _⟩ := (R1.wipe vs).own i u hi
      rw [hz] at h1 g1; cases h1; cases g1
      rw [hD] at g2; cases g2
    rintro i m H' ⟨rfl, hi, acc, G', ρ', vals, S', e', R', hDv, gD', ra, nS', q'⟩
    obtain ⟨hstop, hgo⟩ := it B (L2.wipe σ vs) ρ' G' H' e' R'
    by_cases hlt : i < ds.length
    · have hd : ds[i]? = some ds[i] := List.getElem?_eq_getElem hlt
      obtain ⟨go, _⟩ := hgo i _ hd
      refine .inr ⟨go, fun H2 => ∃ acc, Inv acc (i + 1) H2, fun H2 h2 => ⟨_, by omega, rfl, hlt, h2⟩, fun x H2 hy => ?_⟩
      rw [List.drop_eq_getElem_cons hlt] at q'
      -- D is kept while the turn goes
      let B' : Addr → Prop := fun a => B a ∨ a = D
      have RB : Rep K B' G' H' (L2.wipe σ vs) ρ' := by
        refine ⟨R'.gh, R'.tb, R'.z.more fun _ z => .inl z, fun a ha => ?_, R'.len, R'.dat, fun j u hj => ?_, R'.sep⟩
        · rcases ha with ha | rfl
          · exact R'.bh a ha
          · exact ⟨_, hDv, nt_lst⟩
        · obtain ⟨q, hq, h1, h2, h3, h4, h5⟩ := R'.own j u hj
          exact ⟨q, hq, h1, h2, h3, fun z => z.elim h4 fun z => nS' j u hj (by rw [h1, z]), h5⟩
      obtain ⟨_, hgoB⟩ := it B' (L2.wipe σ vs) ρ' G' H' e' RB
      obtain ⟨G2, S2, R2, rx⟩ := (hgoB i _ hd).2 x H2 hy
      have q2 : g x (L2.wipe σ vs) H2 fun σ2 H3 => H3 = H2 ∧ ∃ ρ2, Rep K B' G2 H2 σ2 ρ2 ∧ wt ρ2 fun b ρ2 => match b with
        | true => we ρ2 fun r ρ3 => warm r ρ3 ∧ frz [r.cool] ρ3 fun es ρ4 => match es with
          | [y] => acc.length < sizeLine ∧ compL vs wg wt we (ds.drop (i + 1)) (acc ++ [y]) (fun acc ρ2 => Q (.own (.lst acc)) (DL.restore ρ1 vs ρ2)) (wipeS ρ4 vs)
          | _ => False
        | false => compL vs wg wt we (ds.drop (i + 1)) acc (fun acc ρ2 => Q (.own (.lst acc)) (DL.restore ρ1 vs ρ2)) (wipeS ρ2 vs) :=
        hg B' G2 H2 (L2.wipe σ vs) [] ρ' x _ _ _ R2 pn0 rx q' fun σ' ρ2 R3 _ q3 => ⟨rfl, ρ2, R3, q3⟩
      refine ho x (L2.wipe σ vs) H2 _ _ (fun σ2 H3 w2 q3 => ?_) q2
      have w3 : L2.wipe σ2 vs = L2.wipe σ vs := w2.trans wipe_wipe
      obtain ⟨rfl, ρ2, R3, q3⟩ := q3
      refine ⟨w3, ht B' G2 H3 σ2 ρ2 _ _ R3 q3 fun b G4 H4 ρ4 S4 R4 q4 => ?_⟩
      have SB := S2.trans S4
      cases b with
      | false =>
        rw [if_neg Bool.false_ne_true]
        have RW := R4.wipe vs
        rw [w3] at RW
        exact ⟨acc, G4, _, vals, S'.trans (SB.weak fun _ z => .inl z), e'.trans SB.g, RW.weak R'.z.b fun _ z => .inl z, SB.h _ _ (.inr rfl) hDv nt_lst, (SB.n _ _ (.inr rfl) hDv trivial).trans gD', ra.mono SB.g, fun j u hj hz => by
          obtain ⟨q, hq, h1, _, _, h4, _⟩ := RW.own j u hj
          rw [hz] at h1; cases h1; exact h4 (.inr rfl), q4⟩
      | true =>
        rw [if_pos rfl]
        refine he B' G4 H4 σ2 ρ4 _ _ R4 q4 fun y G5 H5 ρ5 r S5 R5 rr ⟨c5, q5⟩ => ?_
        obtain ⟨G5', S5', R5', rr5', cc, ec⟩ := rr.cool R5 c5
        obtain ⟨⟨es', ρ6⟩, ee, q5⟩ := ok_some q5
        obtain ⟨G6, S6, R6, r6⟩ := frz_all R5' (.cons rr5' cc .nil) ee
        have SC := ((SB.trans S5).trans S5').trans S6
        have hD5 : H5 D = some (.lst vals) := SC.h _ _ (.inr rfl) hDv nt_lst
        have gD6 : G6 D = none := (SC.n _ _ (.inr rfl) hDv trivial).trans gD'
        match es', r6, q5 with
        | [yd], r6, ⟨hz, q5⟩ =>
          have RW := R6.wipe vs
          rw [w3] at RW
          have nSW : ∀ (j : Nat) (u : OD), (wipeS ρ6 vs)[j]? = some (SD.own u) → (L2.wipe σ vs)[j]? ≠ some (some (V.ref D)) := fun j u hj hz => by
            obtain ⟨q, hq, h1, _, _, h4, _⟩ := RW.own j u hj
            rw [hz] at h1; cases h1; exact h4 (.inr rfl)
          obtain ⟨yv, eyv, ryv⟩ := r6.one
          cases eyv
          refine ⟨vals, hD5, by rw [ra.length]; exact hz, acc ++ [yd], G6, _, vals ++ [y], (S'.trans (SC.weak fun _ z => .inl z)).trans ⟨Ex.refl _, fun _ _ h => h, fun _ _ h => h, fun a o hb h _ => by rw [upd_ne (nb_ne nB hb)]; exact h, fun _ _ _ _ _ => rfl⟩, e'.trans SC.g, (RW.weak R'.z.b fun _ z => .inl z).aside (.inr ⟨_, hD5⟩) gD6 nB nSW, upd_same, gD6, (ra.mono SC.g).append (.cons ryv .nil), nSW, q5⟩
    · have e : i = ds.length := by omega
      subst e
      rw [List.drop_length] at q'
      refine .inl ⟨hstop _ (Nat.le_refl _), ?_⟩
      have RB : Rep K (fun a => B a ∨ a = D) G' H' (L2.wipe σ vs) ρ' := by
        refine ⟨R'.gh, R'.tb, R'.z.more fun _ z => .inl z, fun a ha => ?_, R'.len, R'.dat, fun j u hj => ?_, R'.sep⟩
        · rcases ha with ha | rfl
          · exact R'.bh a ha
          · exact ⟨_, hDv, nt_lst⟩
        · obtain ⟨q, hq, h1, h2, h3, h4, h5⟩ := R'.own j u hj
          exact ⟨q, hq, h1, h2, h3, fun z => z.elim h4 fun z => nS' j u hj (by rw [h1, z]), h5⟩
      have RF := Rep.restore R1 e' hv no RB
      refine k _ G' H' _ _ S' (RF.weak R'.z.b fun _ z => .inl z) (.own hDv gD' nB (.lst ra) fun j u hj hz => ?_) q'
      obtain ⟨q, hq, h1, _, _, h4, _⟩ := RF.own j u hj
      rw [hz] at h1; cases h1; exact h4 (.inr rfl)
/-- [e for x in xs if t] -/
theorem de_lc {elt iter : Expr} {ifs : List Expr} {scope : Scope} {own : List (Str × Nat)} {wi : TI} {wI : Wi} {g : TG} {wg : Wg} {tt : TT} {wt : Wt} (hc : X.calm = true) (hN : X.N.Nodup) (hv : (own.map (·.2)).Nodup) (hi : DI X tg iter wi wI) (okb : BlkOk X.N X.env.scope scope own)
    (hg : ∀ (s : Shared) (H : Hp) (C : Addr) (cl : List (Str × Addr)) (fp : List Addr), DG (X.blk s H scope (compEnvC scope cl C X.env) fp) T0 tg g wg) (ho : GOnly (own.map (·.2)) g)
    (ht : ∀ (s : Shared) (H : Hp) (C : Addr) (cl : List (Str × Addr)) (fp : List Addr), PTs (X.blk s H scope (compEnvC scope cl C X.env) fp) ifs tt) (hw : WTt X.K tt wt)
    (he : ∀ (s : Shared) (H : Hp) (C : Addr) (cl : List (Str × Addr)) (fp : List Addr), DE (X.blk s H scope (compEnvC scope cl C X.env) fp) elt te we) (hs : ∀ x, foldedSetIterable iter X.env x = pure x := by intro _; rfl) :
    DE X (.ListComp elt [⟨tg, iter, ifs, 0⟩] scope pos) (tLc wi g tt te (own.map (·.2))) (wLc (own.map (·.2)) wI wg wt we) :=
  ⟨pe_lc hc hN hi.pi okb (fun s H C cl fp => (hg s H C cl fp).pg) ht (fun s H C cl fp => (he s H C cl fp).pe) hs, we_lc hv hi.wi (hg X.s_0 X.H_0 0 [] []).wg ho hw (he X.s_0 X.H_0 0 [] []).we⟩
def wYes : Wt := fun ρ Q => Q true ρ
theorem wt_yes : WTt K tYes wYes := fun B G H σ ρ Q QV R q k => k true G H ρ .refl R q
end
end DL

set_option Elab.async false
set_option linter.all false
set_option maxRecDepth 100000
set_option maxHeartbeats 2000000
namespace DL
open PySem L2
/-! ### defs -/
/-- no slot's thing -/
def Rz.free : Rz → Bool
  | .bor _ => false
  | _ => true
/-- what a def makes of its arguments: what it asks, what it gives, what becomes of the things lent to it; what is wanted of an exception -/
abbrev Fd := Sl → (Rz → Sl → Prop) → Xp → Prop
structure FnG (P : Program) (w : World) (KF : PySem.W.Frag) (Ts : List (Addr × Str)) (mg : Str → Option Value) (base : Heap) (k : Nat) (f : Addr) (fd : FuncData) (ps : List Str) (F : Fd) : Prop where
  run : ∀ (A : Around) (outer : List PySem.Env) (s : Shared) (H : Hp) (args : Args) (us : List Value) (vs : List V) (B : Addr → Prop) (G : Hp) (as : Sl) (Q : Rz → Sl → Prop) (Ξ : Xp) (QV : VK) (E : XK), Room k A → A.guards = some [] →
    Env0 P w KF mg base A outer s H → BindsTo s fd args (ps.zip us) → Vals vs us → vs.length = ps.length → Rep ⟨KF, Ts, B, G, H⟩ B G H (vs.map some) as → F as Q Ξ →
    (∀ v G' H' as' r, Stp B G H G' H' → Rep ⟨KF, Ts, B, G, H⟩ B G' H' (vs.map some) as' → RR ⟨KF, Ts, B, G, H⟩ B G' H' (vs.map some) as' v r → r.free = true → Q r as' → QV v H') →
    Lk KF B G H Ξ (fun cls d _ H' => E cls d H') →
    codeAny (model P w) A (.call (.ref f) args) (CR (L2.CX P w) outer P w H s QV E) s
theorem FnG.mono {P : Program} {w : World} {KF : PySem.W.Frag} {Ts : List (Addr × Str)} {mg : Str → Option Value} {base : Heap} {j k : Nat} {f : Addr} {fd : FuncData} {ps : List Str} {F : Fd} (h : FnG P w KF Ts mg base j f fd ps F) (hk : j ≤ k) : FnG P w KF Ts mg base k f fd ps F :=
  ⟨fun A outer s H args us vs B G as Q Ξ QV E hr => h.run A outer s H args us vs B G as Q Ξ QV E (hr.mono hk)⟩
/-- the context of a def's body -/
abbrev cxT (P : Program) (w : World) (KF : PySem.W.Frag) (Ts : List (Addr × Str)) (mg : Str → Option Value) (base : Heap) (N : List Str) (qual : Str) (scope : Scope) (f : Addr) (cdv : Value) (A : Around) (outer : List PySem.Env) (s : Shared) (H : Hp) (E : XK) (B : Addr → Prop) (G : Hp) (Ξ : Xp) (lk : Lk KF B G H Ξ (fun cls d _ H' => E cls d H')) : CxT :=
  ⟨cxOf (L2.CX P w) P w KF mg base N qual scope f cdv A outer s H E, Ts, B, G, H, Ξ, fun cls d _ H' => E cls d H', PassesOwn.leaving, takes_of rfl rfl rfl rfl, lk⟩
/-- what a body's end makes of the slots -/
def fin (T : Nat → Bool) (as ρ : Sl) : Sl := as.mapIdx fun i a => if T i then ρ.getD i .emp else a
def pinned (T : Nat → Bool) (as : Sl) : Prop := ∀ i o, as[i]? = some (SD.own o) → T i = true
/-- a result that leaves: a slot's own thing goes with it -/
def leave (T : Nat → Bool) (m : Nat) (r : Rz) (ρ : Sl) (Q : Rz → Sl → Prop) : Prop := match r with
  | .dat d => Q (.dat d) ρ
  | .own o => Q (.own o) ρ
  | .bor i => match ρ[i]? with
    | some (.dat d) => Q (.dat d) ρ
    | some (.own o) => (i < m → T i = false) ∧ Q (.own o) (ρ.set i .emp)
    | _ => False
def mkF (T : Nat → Bool) (n : Nat) (w : Xp → Ws) : Fd := fun as Q Ξ => pinned T as ∧ w Ξ { nx := fun ρ => Q (.dat .non) (fin T as ρ), rt := fun r ρ => leave T as.length r ρ fun r ρ => Q r (fin T as ρ) } (as ++ List.replicate (n - as.length) .emp)
section
variable {P : Program} {w : World} {K : KT} {mg : Str → Option Value} {base : Heap}
theorem rep_start {B : Addr → Prop} {G H : Hp} {vs : List V} {as : Sl} {N : List Str} (R : Rep K B G H (vs.map some) as) (hl : vs.length ≤ N.length) : Rep K B G H (L2.start N vs) (as ++ List.replicate (N.length - as.length) .emp) := by
  have hlen : as.length = vs.length := by have := R.len; rw [List.length_map] at this; exact this.symm
  have get : ∀ (i : Nat) (s : SD), (as ++ List.replicate (N.length - as.length) SD.emp)[i]? = some s → s ≠ .emp → i < as.length ∧ as[i]? = some s := fun i s h hne => by
    by_cases hi : i < as.length
    · rw [List.getElem?_append_left hi] at h; exact ⟨hi, h⟩
    · rw [List.getElem?_append_right (by omega)] at h
      have := List.eq_of_mem_replicate (List.mem_of_getElem? h)
      exact absurd this hne
  have gs : ∀ i, i < as.length → (L2.start N vs)[i]? = (vs.map some)[i]? := fun i hi => by
    unfold L2.start
    exact List.getElem?_append_left (by rw [List.length_map]; omega)
  refine ⟨R.gh, R.tb, R.z, R.bh, ?_, fun i d h => ?_, fun i o h => ?_, fun i j o u p x y z t => ?_⟩
  · unfold L2.start
    rw [List.length_append, List.length_append, List.length_map, List.length_replicate, List.length_replicate, hlen]
  · obtain ⟨a, b⟩ := get i _ h (by intro z; cases z)
    rw [gs i a]; exact R.dat i d b
  · obtain ⟨a, b⟩ := get i _ h (by intro z; cases z)
    rw [gs i a]; exact R.own i o b
  · obtain ⟨a, b⟩ := get i _ x (by intro z; cases z)
    obtain ⟨c, d⟩ := get j _ y (by intro z; cases z)
    rw [gs i a] at z; rw [gs j c] at t
    exact R.sep i j o u p b d z t
/-- back at the caller: the arguments' slots -/
theorem rep_fin {T : Nat → Bool} {B : Addr → Prop} {G0 H0 G H : Hp} {vs : List V} {as ρ : Sl} {σ : L2.St} {N : List Str} (R0 : Rep K B G0 H0 (vs.map some) as) (hp : pinned T as) (hl : vs.length ≤ N.length) (R : Rep K B G H σ ρ) (e : Ex G0 G) (P : Pn T (L2.start N vs) σ) :
    Rep K B G H (vs.map some) (fin T as ρ) := by
  have hlen : as.length = vs.length := by have := R0.len; rw [List.length_map] at this; exact this.symm
  have gs : ∀ i, i < as.length → T i = true → σ[i]? = (vs.map some)[i]? := fun i hi hT => by
    rw [P i hT]
    unfold L2.start
    exact List.getElem?_append_left (by rw [List.length_map]; omega)
  have get : ∀ (i : Nat) (s : SD), (fin T as ρ)[i]? = some s → i < as.length ∧ ((T i = true ∧ s = ρ.getD i .emp) ∨ (T i = false ∧ as[i]? = some s)) := fun i s h => by
    unfold fin at h
    rw [List.getElem?_mapIdx] at h
    cases ha : as[i]? with
    | none => rw [ha] at h; cases h
    | some a =>
      rw [ha] at h
      refine ⟨(List.getElem?_eq_some_iff.mp ha).1, ?_⟩
      cases hT : T i with
      | true => simp only [hT, Option.map_some, if_true] at h; cases h; exact .inl ⟨rfl, rfl⟩
      | false => simp only [hT, Option.map_some] at h; cases h; exact .inr ⟨rfl, rfl⟩
  have gd : ∀ (i : Nat) (s : SD), s ≠ .emp → s = ρ.getD i .emp → ρ[i]? = some s := fun i s hne h => by
    rw [List.getD_eq_getElem?_getD] at h
    cases hr : ρ[i]? with
    | none => rw [hr] at h; exact absurd h hne
    | some x => rw [hr] at h; rw [h]; rfl
  refine ⟨R.gh, R.tb, R.z, R.bh, by unfold fin; rw [List.length_map, List.length_mapIdx, hlen], fun i d h => ?_, fun i o h => ?_, fun i j o u p x y z t => ?_⟩
  · obtain ⟨hi, ⟨hT, hs⟩ | ⟨hT, hs⟩⟩ := get i _ h
    · rw [← gs i hi hT]; exact R.dat i d (gd i _ (by intro z; cases z) hs)
    · obtain ⟨v, h1, h2⟩ := R0.dat i d hs
      exact ⟨v, h1, h2.mono e⟩
  · obtain ⟨hi, ⟨hT, hs⟩ | ⟨hT, hs⟩⟩ := get i _ h
    · rw [← gs i hi hT]; exact R.own i o (gd i _ (by intro z; cases z) hs)
    · exact absurd (hp i o hs) (by rw [hT]; intro z; cases z)
  · obtain ⟨hi, ⟨hT, hs⟩ | ⟨hT, hs⟩⟩ := get i _ x
    · obtain ⟨hj, ⟨hT', hs'⟩ | ⟨hT', hs'⟩⟩ := get j _ y
      · rw [← gs i hi hT] at z; rw [← gs j hj hT'] at t
        exact R.sep i j o u p (gd i _ (by intro z; cases z) hs) (gd j _ (by intro z; cases z) hs') z t
      · exact absurd (hp j u hs') (by rw [hT']; intro z; cases z)
    · exact absurd (hp i o hs) (by rw [hT]; intro z; cases z)
theorem fng_of {KF : PySem.W.Frag} {Ts : List (Addr × Str)} {x qual : Str} {st : Stmt} {f : Addr} {oc kV doc pm cdv ct : Value} {od an : Option Addr} {osl : Array (Option Value)} {N ps : List Str} {k : Nat} {T : Nat → Bool} {wb : Xp → Ws}
    (lk : KF.lookup f = some ⟨oc, od, .func (PySem.W.fnOf x qual (defArgs st) (defBody st) (defScope st) .none kV doc pm an cdv ct), osl⟩) (hcd : PySem.W.codeIn KF cdv qual = true) (S : FnScope N ps (defScope st))
    (hbody : ∀ (A : Around) (outer : List PySem.Env) (s : Shared) (H : Hp) (E : XK) (B : Addr → Prop) (G : Hp) (Ξ : Xp) (lk : Lk KF B G H Ξ (fun cls d _ H' => E cls d H')), Room k (A.deeper (PyProof.Rows.envOfC qual (defScope st) s.heap.objs.size f cdv)) → (A.deeper (PyProof.Rows.envOfC qual (defScope st) s.heap.objs.size f cdv)).guards = some [] →
      ∃ t, DSs (cxT P w KF Ts mg base N qual (defScope st) f cdv A outer s H E B G Ξ lk) T (defBody st) t (wb Ξ)) : FnG P w KF Ts mg base (k + 1) f (PySem.W.fnOf x qual (defArgs st) (defBody st) (defScope st) .none kV doc pm an cdv ct) ps (mkF T N.length wb) := by
  refine ⟨fun A outer s H args us vs B G as Q Ξ QV E hr hg e0 hb r hl R ⟨hp, hw⟩ hk hx => ?_⟩
  have hN : vs.length ≤ N.length := by
    rw [hl]
    have := congrArg List.length S.pre
    rw [List.length_take] at this
    omega
  have hlen : as.length = vs.length := by have := R.len; rw [List.length_map] at this; exact this.symm
  refine LamX.run_ofS lk hcd S hr e0 hb r hl fun hr' => ?_
  obtain ⟨t, ht⟩ := hbody A outer s H E B G Ξ hx hr' hg
  refine ⟨t, ht.pss, ht.ws B G H _ (L2.start N vs) _ _ _ (rep_start R hN) (fun _ _ => rfl) hw (fun G' H' σ' ρ' S' R' P' q => ?_) (fun G' H' σ' ρ' v r S' R' P' rr q => ?_) (fun _ _ _ _ _ _ _ q => q.elim) (fun _ _ _ _ _ _ _ q => q.elim)⟩
  · exact hk .non G' H' _ _ S' (rep_fin R hp hN R' S'.g P') (.dat .non) rfl q
  · have RF := rep_fin R hp hN R' S'.g P'
    have owned : ∀ (p : Addr) (ρ2 : Sl), Rep ⟨KF, Ts, B, G, H⟩ B G' H' σ' ρ2 → (∀ (i : Nat) (u : OD), ρ2[i]? = some (SD.own u) → σ'[i]? ≠ some (some (V.ref p))) → ∀ (i : Nat) (u : OD), (fin T as ρ2)[i]? = some (SD.own u) → (vs.map some)[i]? ≠ some (some (V.ref p)) := fun p ρ2 R2 hno i u hi hz => by
      unfold fin at hi
      rw [List.getElem?_mapIdx] at hi
      cases ha : as[i]? with
      | none => rw [ha] at hi; cases hi
      | some a =>
        rw [ha] at hi
        have hil := (List.getElem?_eq_some_iff.mp ha).1
        cases hT : T i with
        | true =>
          simp only [hT, Option.map_some, if_true] at hi
          have hi : ρ2.getD i .emp = SD.own u := Option.some.inj hi
          rw [List.getD_eq_getElem?_getD] at hi
          cases hr : ρ2[i]? with
          | none => rw [hr] at hi; cases hi
          | some y =>
            rw [hr] at hi
            have hi : y = SD.own u := hi
            subst hi
            refine hno i u hr ?_
            rw [P' i hT]
            unfold L2.start
            rw [List.getElem?_append_left (by rw [List.length_map]; omega)]
            exact hz
        | false =>
          simp only [hT, Option.map_some] at hi
          have hi : a = SD.own u := Option.some.inj hi
          subst hi
          have := hp i u ha
          rw [hT] at this; cases this
    cases rr with
    | dat z => exact hk v G' H' _ _ S' RF (.dat z) rfl q
    | own h1 h2 h3 h4 h5 => exact hk _ G' H' _ _ S' RF (.own h1 h2 h3 h4 (owned _ ρ' R' h5)) rfl q
    | bor hz =>
      rename_i i
      have q : match ρ'[i]? with | some (.dat d) => Q (.dat d) (fin T as ρ') | some (.own o) => (i < as.length → T i = false) ∧ Q (.own o) (fin T as (ρ'.set i .emp)) | _ => False := by
        unfold leave at q
        cases hi : ρ'[i]? with
        | none => simp only [hi] at q
        | some s => cases s <;> first | (simp only [hi] at q; done) | (simp only [hi] at q ⊢; exact q)
      cases hi : ρ'[i]? with
      | none => rw [hi] at q; exact q.elim
      | some s =>
        cases s with
        | emp => rw [hi] at q; exact q.elim
        | dat d =>
          rw [hi] at q
          obtain ⟨w1, w2, w3⟩ := R'.dat _ _ hi
          rw [hz] at w2; cases w2
          exact hk _ G' H' _ _ S' RF (.dat w3) rfl q
        | own o =>
          rw [hi] at q
          obtain ⟨p, ho, w2, h1, h2, h3, h4⟩ := R'.own _ _ hi
          rw [hz] at w2; cases w2
          have RE := R'.emp i
          have no : ∀ (j : Nat) (u : OD), (ρ'.set i SD.emp)[j]? = some (SD.own u) → σ'[j]? ≠ some (some (V.ref p)) := fun j u hj hq => by
            by_cases z : j = i
            · subst z; rw [List.getElem?_set_self (List.getElem?_eq_some_iff.mp hi).1] at hj; cases hj
            · rw [List.getElem?_set_ne (Ne.symm z)] at hj
              exact z (R'.sep j i u o p hj hi hq hz)
          exact hk _ G' H' _ _ S' (rep_fin R hp hN RE S'.g P') (.own h1 h2 h3 h4 (owned p _ RE no)) rfl q.2
end
end DL

set_option Elab.async false
set_option linter.all false
set_option maxRecDepth 100000
set_option maxHeartbeats 2000000
namespace DL
open PySem L2
/-! ### calls of defs -/
def isBor (i : Nat) (r : Rz) : Bool := match r with
  | .bor j => decide (j = i)
  | _ => false
def argOf (ρ : Sl) (r : Rz) : SD := match r with
  | .dat d => .dat d
  | .own _ => .emp
  | .bor i => ρ.getD i .emp
def backS (ρ : Sl) (rs : List Rz) (as : Sl) : Sl := ρ.mapIdx fun i s => match s with
  | .own o => match rs.findIdx? (isBor i) with
    | some k => as.getD k .emp
    | none => .own o
  | s => s
def newBor (r : Rz) (rs : List Rz) : Bool := match r with
  | .bor i => !rs.any (isBor i)
  | _ => true
def onceB : List Rz → Bool
  | [] => true
  | r :: rs => newBor r rs && onceB rs
theorem once_of : ∀ {rs : List Rz} {k l i : Nat}, onceB rs = true → rs[k]? = some (Rz.bor i) → rs[l]? = some (Rz.bor i) → k = l
  | [], k, l, i, _, h, _ => by simp at h
  | r :: rs, k, l, i, h, h1, h2 => by
    have hh : newBor r rs = true ∧ onceB rs = true := Bool.and_eq_true_iff.mp h
    have no : ∀ m, rs[m]? = some (Rz.bor i) → r ≠ .bor i := fun m hm hr => by
      subst hr
      have h0 : (!rs.any (isBor i)) = true := hh.1
      have h3 : rs.any (isBor i) = true := List.any_eq_true.mpr ⟨_, List.mem_of_getElem? hm, by unfold isBor; simp⟩
      rw [h3] at h0; cases h0
    cases k with
    | zero =>
      cases l with
      | zero => rfl
      | succ l =>
        simp only [List.getElem?_cons_zero, List.getElem?_cons_succ] at h1 h2
        exact absurd (Option.some.inj h1) (no l h2)
    | succ k =>
      cases l with
      | zero =>
        simp only [List.getElem?_cons_zero, List.getElem?_cons_succ] at h1 h2
        exact absurd (Option.some.inj h2) (no k h1)
      | succ l =>
        simp only [List.getElem?_cons_succ] at h1 h2
        rw [once_of hh.2 h1 h2]
section
variable {X : CxT} {K : KT} {e : Expr} {es : List Expr} {t : TA} {wa : Wa} {F : Fd} {x : Str} {p pos : Pos}
def SpG (KF : PySem.W.Frag) (Ts : List (Addr × Str)) (n : Nat) (F : Fd) (vs : List V) (H : Hp) (QV : VK) (E : XK) : Prop := ∃ (B : Addr → Prop) (G : Hp) (as : Sl) (Q : Rz → Sl → Prop) (Ξ : Xp), vs.length = n ∧ Rep ⟨KF, Ts, B, G, H⟩ B G H (vs.map some) as ∧ F as Q Ξ ∧
  (∀ v G' H' as' r, Stp B G H G' H' → Rep ⟨KF, Ts, B, G, H⟩ B G' H' (vs.map some) as' → RR ⟨KF, Ts, B, G, H⟩ B G' H' (vs.map some) as' v r → r.free = true → Q r as' → QV v H') ∧ Lk KF B G H Ξ (fun cls d _ H' => E cls d H')
def tCallG (KF : PySem.W.Frag) (Ts : List (Addr × Str)) (n : Nat) (F : Fd) (W : WX) (t : TA) : TE := fun σ H Q => t σ H fun vs H1 => SpG KF Ts n F vs H1 Q (fun cls d H' => W cls d σ H')
def wCall (n : Nat) (F : Fd) (Ξ : Xp) (wa : Wa) : We := fun ρ Q => wa ρ fun rs ρ1 => rs.length = n ∧ onceB rs = true ∧ F (rs.map (argOf ρ1)) (fun r as => Q r (backS ρ1 rs as)) Ξ
theorem rrs_get {B : Addr → Prop} {G H : Hp} {σ : L2.St} {ρ : Sl} : ∀ {vs : List V} {rs : List Rz} {k : Nat} {r : Rz}, RRs K B G H σ ρ vs rs → rs[k]? = some r → ∃ v, vs[k]? = some v ∧ RR K B G H σ ρ v r ∧ r.cold = true
  | _, _, _, _, .nil, h => by simp at h
  | _, _, 0, r, .cons h c t, e => by simp at e; subst e; exact ⟨_, rfl, h, c⟩
  | _, _, k + 1, r, .cons h c t, e => by
    obtain ⟨v, a, b⟩ := rrs_get (k := k) (r := r) t (by simpa using e)
    exact ⟨v, by simpa using a, b⟩
theorem rrs_len {B : Addr → Prop} {G H : Hp} {σ : L2.St} {ρ : Sl} : ∀ {vs : List V} {rs : List Rz}, RRs K B G H σ ρ vs rs → vs.length = rs.length
  | _, _, .nil => rfl
  | _, _, .cons _ _ t => congrArg (· + 1) (rrs_len t)
/-- at a call: the arguments as the callee's slots; what is not lent is not to be changed -/
theorem call_in {B : Addr → Prop} {G H : Hp} {σ : L2.St} {ρ : Sl} {vs : List V} {rs : List Rz} (R : Rep K B G H σ ρ) (rr : RRs K B G H σ ρ vs rs) (ho : onceB rs = true) :
    Rep (K.at (fun a => Tr H a ∧ ∀ (i : Nat) (o : OD), Rz.bor i ∈ rs → ρ[i]? = some (SD.own o) → σ[i]? ≠ some (some (V.ref a))) G H) (fun a => Tr H a ∧ ∀ (i : Nat) (o : OD), Rz.bor i ∈ rs → ρ[i]? = some (SD.own o) → σ[i]? ≠ some (some (V.ref a))) G H (vs.map some) (rs.map (argOf ρ)) := by
  have get : ∀ (k : Nat) (s : SD), (rs.map (argOf ρ))[k]? = some s → ∃ r v, rs[k]? = some r ∧ vs[k]? = some v ∧ RR K B G H σ ρ v r ∧ r.cold = true ∧ argOf ρ r = s ∧ (vs.map some)[k]? = some (some v) := fun k s h => by
    rw [List.getElem?_map] at h
    cases hr : rs[k]? with
    | none => rw [hr] at h; cases h
    | some r =>
      rw [hr] at h
      obtain ⟨v, hv, h1, h2⟩ := rrs_get rr hr
      exact ⟨r, v, rfl, hv, h1, h2, Option.some.inj h, by rw [List.getElem?_map, hv]; rfl⟩
  refine ⟨R.gh, R.tb, R.z.new, fun a h => h.1, by rw [List.length_map, List.length_map]; exact rrs_len rr, fun k d h => ?_, fun k o h => ?_, fun k l o u q hk hl hz hw => ?_⟩
  · obtain ⟨r, v, h1, h2, h3, h4, h5, h6⟩ := get k _ h
    refine ⟨v, h6, ?_⟩
    cases h3 with
    | dat z => cases h5; exact z
    | own => cases h4
    | bor hz =>
      rename_i i
      have h5 : ρ.getD i .emp = SD.dat d := h5
      rw [List.getD_eq_getElem?_getD] at h5
      cases hi : ρ[i]? with
      | none => rw [hi] at h5; cases h5
      | some s =>
        rw [hi] at h5
        have h5 : s = SD.dat d := h5
        subst h5
        obtain ⟨w, w1, w2⟩ := R.dat _ _ hi
        rw [hz] at w1; cases w1
        exact w2
  · obtain ⟨r, v, h1, h2, h3, h4, h5, h6⟩ := get k _ h
    cases h3 with
    | dat z => cases h5
    | own => cases h4
    | bor hz =>
      rename_i i
      have h5 : ρ.getD i .emp = SD.own o := h5
      rw [List.getD_eq_getElem?_getD] at h5
      cases hi : ρ[i]? with
      | none => rw [hi] at h5; cases h5
      | some s =>
        rw [hi] at h5
        have h5 : s = SD.own o := h5
        subst h5
        obtain ⟨q, ho', w1, w2, w3, w4, w5⟩ := R.own _ _ hi
        rw [hz] at w1; cases w1
        exact ⟨q, ho', h6, w2, w3, fun z => z.2 i o (List.mem_of_getElem? h1) hi hz, w5⟩
  · have own : ∀ (k : Nat) (o : OD), (rs.map (argOf ρ))[k]? = some (SD.own o) → (vs.map some)[k]? = some (some (V.ref q)) → ∃ i, rs[k]? = some (Rz.bor i) ∧ ρ[i]? = some (SD.own o) ∧ σ[i]? = some (some (V.ref q)) := fun k o h hz => by
      obtain ⟨r, v, h1, h2, h3, h4, h5, h6⟩ := get k _ h
      rw [h6] at hz; cases hz
      cases h3 with
      | dat z => cases h5
      | own => cases h4
      | bor hz =>
        rename_i i
        have h5 : ρ.getD i .emp = SD.own o := h5
        rw [List.getD_eq_getElem?_getD] at h5
        cases hi : ρ[i]? with
        | none => rw [hi] at h5; cases h5
        | some s =>
          rw [hi] at h5
          have h5 : s = SD.own o := h5
          subst h5
          exact ⟨i, h1, hi, hz⟩
    obtain ⟨i, a1, a2, a3⟩ := own k o hk hz
    obtain ⟨j, b1, b2, b3⟩ := own l u hl hw
    have := R.sep i j o u q a2 b2 a3 b3
    subst this
    exact once_of ho a1 b1
theorem find_bor {rs : List Rz} {i k : Nat} (h : rs.findIdx? (isBor i) = some k) : rs[k]? = some (Rz.bor i) := by
  obtain ⟨hl, hb, _⟩ := List.findIdx?_eq_some_iff_getElem.mp h
  rw [List.getElem?_eq_getElem hl]
  cases hr : rs[k] with
  | bor j =>
    rw [hr] at hb
    have : j = i := of_decide_eq_true hb
    rw [this]
  | dat d => rw [hr] at hb; cases hb
  | own o => rw [hr] at hb; cases hb
theorem find_none {rs : List Rz} {i : Nat} (h : rs.findIdx? (isBor i) = none) : Rz.bor i ∉ rs := fun hm => by
  have := List.findIdx?_eq_none_iff.mp h _ hm
  unfold isBor at this
  simp at this
/-- behind a call -/
theorem call_out {B1 : Addr → Prop} {G1 H1 : Hp} {B : Addr → Prop} {G H G' H' : Hp} {σ : L2.St} {ρ as : Sl} {vs : List V} {rs : List Rz} {v : V} {r : Rz} (R : Rep K B G H σ ρ) (rr : RRs K B G H σ ρ vs rs) 
    (S : Stp (fun a => Tr H a ∧ ∀ (i : Nat) (o : OD), Rz.bor i ∈ rs → ρ[i]? = some (SD.own o) → σ[i]? ≠ some (some (V.ref a))) G H G' H')
    (RA : Rep (K.at B1 G1 H1) (fun a => Tr H a ∧ ∀ (i : Nat) (o : OD), Rz.bor i ∈ rs → ρ[i]? = some (SD.own o) → σ[i]? ≠ some (some (V.ref a))) G' H' (vs.map some) as)
    (rv : RR (K.at B1 G1 H1) (fun a => Tr H a ∧ ∀ (i : Nat) (o : OD), Rz.bor i ∈ rs → ρ[i]? = some (SD.own o) → σ[i]? ≠ some (some (V.ref a))) G' H' (vs.map some) as v r) (hf : r.free = true) :
    Stp B G H G' H' ∧ Rep K B G' H' σ (backS ρ rs as) ∧ RR K B G' H' σ (backS ρ rs as) v r := by
  have BB : ∀ a, B a → Tr H a ∧ ∀ (i : Nat) (o : OD), Rz.bor i ∈ rs → ρ[i]? = some (SD.own o) → σ[i]? ≠ some (some (V.ref a)) := fun a hb => ⟨R.bh a hb, fun i o _ hi hz => by
    obtain ⟨q, ho, h1, h2, h3, h4, h5⟩ := R.own i o hi
    rw [hz] at h1; cases h1; exact h4 hb⟩
  -- what a slot holds behind the call
  have get : ∀ (i : Nat) (s : SD), (backS ρ rs as)[i]? = some s → (ρ[i]? = some s ∧ (∀ o, s = .own o → rs.findIdx? (isBor i) = none)) ∨ (∃ o k, ρ[i]? = some (SD.own o) ∧ rs[k]? = some (Rz.bor i) ∧ s = as.getD k .emp) := fun i s h => by
    unfold backS at h
    rw [List.getElem?_mapIdx] at h
    cases hi : ρ[i]? with
    | none => rw [hi] at h; cases h
    | some x =>
      rw [hi] at h
      cases x with
      | emp => cases h; exact .inl ⟨rfl, fun o z => by cases z⟩
      | dat d => cases h; exact .inl ⟨rfl, fun o z => by cases z⟩
      | own o =>
        have h := Option.some.inj h
        cases hk : rs.findIdx? (isBor i) with
        | none => simp only [hk] at h; subst h; exact .inl ⟨rfl, fun _ _ => rfl⟩
        | some k => simp only [hk] at h; exact .inr ⟨o, k, rfl, find_bor hk, h.symm⟩
  have slot : ∀ {i k : Nat}, rs[k]? = some (Rz.bor i) → (vs.map some)[k]? = σ[i]? := fun {i k} h => by
    obtain ⟨w, w1, w2, _⟩ := rrs_get rr h
    cases w2 with
    | bor hz => rw [hz, List.getElem?_map, w1]; rfl
  have gd : ∀ (i : Nat) (s : SD), s ≠ .emp → s = as.getD i .emp → as[i]? = some s := fun i s hne h => by
    rw [List.getD_eq_getElem?_getD] at h
    cases hr : as[i]? with
    | none => rw [hr] at h; exact absurd h hne
    | some x => rw [hr] at h; rw [h]; rfl
  have was : ∀ (i : Nat) (o : OD), (backS ρ rs as)[i]? = some (SD.own o) → ∃ o', ρ[i]? = some (SD.own o') := fun i o h => by
    rcases get i _ h with ⟨h1, _⟩ | ⟨o', k, h1, _, _⟩
    · exact ⟨o, h1⟩
    · exact ⟨o', h1⟩
  have RO : Rep K B G' H' σ (backS ρ rs as) := by
    refine ⟨RA.gh, RA.tb, R.z.step (S.weak BB), fun a hb => RA.bh a (BB a hb), by unfold backS; rw [List.length_mapIdx]; exact R.len, fun i d h => ?_, fun i o h => ?_, fun i j o u q x y z t => ?_⟩
    · rcases get i _ h with ⟨h1, _⟩ | ⟨o', k, h1, h2, h3⟩
      · obtain ⟨w, w1, w2⟩ := R.dat i d h1
        exact ⟨w, w1, w2.mono S.g⟩
      · rw [← slot h2]
        exact RA.dat k d (gd k _ (by intro z; cases z) h3)
    · rcases get i _ h with ⟨h1, h2⟩ | ⟨o', k, h1, h2, h3⟩
      · obtain ⟨q, ho, w1, w2, w3, w4, w5⟩ := R.own i o h1
        have nm := find_none (h2 o rfl)
        have hB : Tr H q ∧ ∀ (i : Nat) (o : OD), Rz.bor i ∈ rs → ρ[i]? = some (SD.own o) → σ[i]? ≠ some (some (V.ref q)) := ⟨⟨_, w2, w5.nt⟩, fun j u hj hu hz => nm ((R.sep j i u o q hu h1 hz w1) ▸ hj)⟩
        exact ⟨q, ho, w1, S.h q ho hB w2 w5.nt, (S.n q ho hB w2 w5.ow).trans w3, w4, w5.mono S.g⟩
      · rw [← slot h2]
        obtain ⟨q, ho, w1, w2, w3, w4, w5⟩ := RA.own k o (gd k _ (by intro z; cases z) h3)
        exact ⟨q, ho, w1, w2, w3, fun hb => w4 (BB q hb), w5⟩
    · obtain ⟨o', h1⟩ := was i o x
      obtain ⟨u', h2⟩ := was j u y
      exact R.sep i j o' u' q h1 h2 z t
  refine ⟨S.weak BB, RO, ?_⟩
  cases rv with
  | dat z => exact .dat z
  | bor z => cases hf
  | own h1 h2 h3 h4 h5 =>
    rename_i p ho o
    refine .own h1 h2 (fun hb => h3 (BB _ hb)) h4 fun i u hi hz => ?_
    rcases get i _ hi with ⟨g1, g2⟩ | ⟨o', k, g1, g2, g3⟩
    · obtain ⟨q, hq, w1, w2, w3, w4, w5⟩ := R.own i u g1
      rw [hz] at w1; cases w1
      have nm := find_none (g2 u rfl)
      exact h3 ⟨⟨_, w2, w5.nt⟩, fun j u' hj hu hz' => nm ((R.sep j i u' u p hu g1 hz' hz) ▸ hj)⟩
    · exact h5 k u (gd k _ (by intro z; cases z) g3) (by rw [slot g2]; exact hz)
/-- an exception that leaves a call leaves its caller's entry too -/
theorem lk_call {K : KT} {B B' : Addr → Prop} {G H : Hp} {Ξ : Xp} {W : WX} {σ : L2.St} (z : Zt K B G H) (hb : ∀ a, B a → B' a) (lk : Lk K.F K.B0 K.G0 K.H0 Ξ W) : Lk K.F B' G H Ξ (fun cls d _ H' => W cls d σ H') :=
  fun G' H' _ C d fs v u S b1 tb ex h1 h2 h3 r q => lk G' H' σ C d fs v u (z.s.trans (S.weak fun a h => hb a (z.b a h))) (fun a h => b1 a (hb a (z.b a h))) tb ex h1 h2 h3 r q
theorem call_b {B : Addr → Prop} {G H : Hp} {σ : L2.St} {ρ : Sl} {rs : List Rz} (R : Rep K B G H σ ρ) : ∀ a, B a → Tr H a ∧ ∀ (i : Nat) (o : OD), Rz.bor i ∈ rs → ρ[i]? = some (SD.own o) → σ[i]? ≠ some (some (V.ref a)) := fun a hb => ⟨R.bh a hb, fun i o _ hi hz => by
  obtain ⟨q, ho, h1, h2, h3, h4, h5⟩ := R.own i o hi
  rw [hz] at h1; cases h1; exact h4 hb⟩
theorem we_call {n : Nat} {Ξ : Xp} {W : WX} (lk : Lk K.F K.B0 K.G0 K.H0 Ξ W) (ha : WAa K t wa) : WE K (tCallG K.F K.T n F W t) (wCall n F Ξ wa) := fun B G H σ ρ Q QV R q k =>
  ha B G H σ ρ _ _ R q fun vs G1 H1 ρ1 rs S1 R1 rr ⟨hl, ho, q1⟩ =>
    ⟨_, G1, rs.map (argOf ρ1), _, Ξ, by rw [rrs_len rr]; exact hl, call_in R1 rr ho, q1, fun v G' H' as' r S' RA rv hf q2 => by
      obtain ⟨a, b, c⟩ := call_out R1 rr S' RA rv hf
      exact k v G' H' _ r (S1.trans a) b c q2, lk_call R1.z (call_b R1) lk⟩
theorem pe_callG {k : Nat} {f : Addr} {fd : FuncData} {ps : List Str} (F0 : FnG X.prog X.w X.cx.K X.T X.mg X.base k f fd ps F) (hr : Room k X.A) (hgd : X.A.guards = some []) (hg : Gl X x) (hm : X.mg x = some (.ref f)) (hk : PySem.W.keepIn X.cx.K (.ref f) = true) (hb : Binds X.cx.K fd ps [])
    (ha : PA X (e :: es) t) (hdb : (x == ("__debug__" : Str)) = false := by decide) (he : starEach (e :: es) X.env = (false, eval e X.env) :: starEach es X.env := by rfl) (hpl : (backTo pos (starEach es X.env)).any (·.1) = false := by rfl) :
    PE X (.Call (.Name x p) (e :: es) [] pos) (tCallG X.cx.K X.T ps.length F X.W t) := by
  refine ⟨fun pins s σ H Q I h => ?_⟩
  refine wpAny_Call_Name_kw (ld_glob I hg hm ?_ hdb)
  refine PySem.W.callWith_K (h₀ := X.base) I.ok.mod.kin hk (thn (ha.run pos pins s σ H _ I h) fun us s1 ⟨vs, H1, I1, r, q⟩ => ⟨I1.kIn, ?_⟩) he hpl
  obtain ⟨B, G, as, Q', Ξ, hl, R, hF, hk, hx⟩ := q
  have hb' := hb s1 us I1.kIn (by rw [List.append_nil, ← r.length]; exact hl)
  rw [List.append_nil] at hb'
  refine wpAny_call (codeAny_mono (F0.run X.A X.stack s1 H1 ⟨us, []⟩ us vs B G as Q' Ξ Q (fun cls d H' => X.W cls d σ H') hr hgd I1.env0 hb' r hl R hF hk hx) fun r s' hq => ?_)
  match r, hq with
  | .ok (.ret u), hq => exact I1.after hq
  | .ok .next, hq => exact False.elim hq
  | .ok .brk, hq => exact False.elim hq
  | .ok .cont, hq => exact False.elim hq
  | .error e, hq => exact X.tk e s' (XE.of_call I1 (fun _ _ _ h => h) hq)
theorem de_call {k : Nat} {f : Addr} {fd : FuncData} {ps : List Str} (F0 : FnG X.prog X.w X.cx.K X.T X.mg X.base k f fd ps F) (hr : Room k X.A) (hgd : X.A.guards = some []) (hg : Gl X x) (hm : X.mg x = some (.ref f)) (hk : PySem.W.keepIn X.cx.K (.ref f) = true) (hb : Binds X.cx.K fd ps [])
    (ha : DA X (e :: es) t wa) (hdb : (x == ("__debug__" : Str)) = false := by decide) (he : starEach (e :: es) X.env = (false, eval e X.env) :: starEach es X.env := by rfl) (hpl : (backTo pos (starEach es X.env)).any (·.1) = false := by rfl) :
    DE X (.Call (.Name x p) (e :: es) [] pos) (tCallG X.cx.K X.T ps.length F X.W t) (wCall ps.length F X.Ξ wa) := ⟨pe_callG F0 hr hgd hg hm hk hb ha.pa hdb he hpl, we_call X.lk ha.wa⟩
end
end DL

set_option Elab.async false
set_option linter.all false
set_option maxRecDepth 100000
set_option maxHeartbeats 2000000
namespace DL
open PySem L2
/-- a def that can be called by its name -/
structure Cal (P : Program) (w : World) (KF : PySem.W.Frag) (Ts : List (Addr × Str)) (mg : Str → Option Value) (base : Heap) (k : Nat) (x : Str) (ps : List Str) (F : Fd) : Prop where
  ex : ∃ f fd, mg x = some (.ref f) ∧ PySem.W.keepIn KF (.ref f) = true ∧ Binds KF fd ps [] ∧ FnG P w KF Ts mg base k f fd ps F
/-! ### the law's own call -/
/-- a def that makes lambdas: its name, its code object, that one's table, the name of what is made there -/
structure Lm where
  x : Str
  c : Addr
  P : Addr
  q : Str
/-- the heap that the layer sees at the law's entry: the script alone, known to the object -/
def seen (K : PySem.W.Frag) (a : Addr) (vs : List Value) (ns : List Int) : Hp := fun b => match K.lookup a with
  | some _ => none
  | none => if b = a then some (.frz { cls := .type "list", data := .seq vs.toArray } (.lst (ns.map V.int))) else none
theorem seen_at {K : PySem.W.Frag} {a : Addr} {vs : List Value} {ns : List Int} {b : Addr} {u : HO} (h : seen K a vs ns b = some u) : K.lookup a = none ∧ b = a ∧ u = .frz { cls := .type "list", data := .seq vs.toArray } (.lst (ns.map V.int)) := by
  unfold seen at h
  split at h
  · cases h
  · rename_i e
    by_cases hb : b = a
    · rw [if_pos hb] at h; cases h; exact ⟨e, hb, rfl⟩
    · rw [if_neg hb] at h; cases h
/-- .. and the tables, as they stand; .. and their marks -/
def seenT (ls : List Lm) (H : Hp) : Hp := fun b => match ls.find? fun p => p.P == b with
  | some _ => some (.tbl #[])
  | none => H b
def markT (ls : List Lm) (H : Hp) : Hp := fun b => match ls.find? fun p => p.P == b with
  | some p => some (.tbl #[Value.str p.q 0])
  | none => H b
theorem find_mem {ls : List Lm} {b : Addr} {p : Lm} (h : (ls.find? fun p => p.P == b) = some p) : p ∈ ls ∧ p.P = b := ⟨List.mem_of_find?_eq_some h, by have := List.find?_some h; simpa using this⟩
theorem find_one {ls : List Lm} (nd : (ls.map (·.P)).Nodup) {p : Lm} (h : p ∈ ls) : (ls.find? fun q => q.P == p.P) = some p := by
  induction ls with
  | nil => cases h
  | cons r ls ih =>
    rw [List.map_cons, List.nodup_cons] at nd
    rcases List.mem_cons.mp h with rfl | h
    · simp [List.find?]
    · have : (r.P == p.P) = false := by
        have : r.P ≠ p.P := fun z => nd.1 (List.mem_map.mpr ⟨p, h, z.symm⟩)
        simpa using this
      rw [List.find?_cons_of_neg (by simp [this])]
      exact ih nd.2 h
theorem law_runs {P : Program} {w : World} {K : PySem.W.Frag} {mg mb : Str → Option Value} {k : Nat} {fa a : Addr} {x y : Str} {F : Fd} {s : Shared} {vs : List Value} {ns : List Int} {ls : List Lm}
    (KX : K.In s.heap) (hns : s.heap.Ns mainGlobals mg) (hb : s.heap.Ns builtinsNs mb) (hbb : ∀ x : Str, x ≠ "__name__" → mb x = bootBuiltins x) (hlim : s.heap.NoLimit) (hg : s.gens = #[])
    (hT : ∀ p ∈ ls, s.heap.get? p.P = some { cls := .none, data := .fields #[] }) (nT : ∀ p ∈ ls, K.lookup p.P = none) (C : ∀ p ∈ ls, PySem.W.CodeHd s.heap p.c p.P) (nd : (ls.map (·.P)).Nodup)
    (hbm : ∃ (bm : Addr) (ob : Obj), mg "__builtins__" = some (.ref bm) ∧ bm ≠ builtinsNs ∧ s.heap.get? bm = some ob ∧ ob.cls = .type "module" ∧ ob.dict = some builtinsNs ∧ ob.data = .plain)
    (ha : s.heap.get? a = some { cls := .type "list", data := .seq vs.toArray }) (hi : PyProof.Rows.IntsAre vs ns) (hl : ns.length ≤ sizeLine) (hr : Room k callerA)
    (hf : ∀ base : Heap, K.In base → base.Ns mainGlobals mg → (∀ p ∈ ls, LamX.TabB base mg p.c p.P) → Cal P w K (ls.map fun p => (p.P, p.q)) mg base k y [x] F) (hy : mg y = some (.ref fa))
    (hF : F [.dat (.scr ns)] (fun r _ => r = .dat (.bl true)) noX) :
    codeAny (model P w) callerA (.call (.ref fa) ⟨[.ref a], []⟩) (fun r s' => r = .ok (.ret (.bool true)) ∧ OldK s.heap s'.heap ∧ s'.os = s.os ∧ PyProof.Rows.AllBare s'.gens) s := by
  have rv := vals_ints hi
  have aT : ∀ p ∈ ls, p.P ≠ a := fun p hp z => by
    have e := hT p hp
    rw [z, ha] at e
    cases e
  have fa0 : (ls.find? fun p => p.P == a) = none := List.find?_eq_none.mpr fun p hp z => aT p hp (by simpa using z)
  generalize hHdef : seenT ls (seen K a vs ns) = H
  have hH : ∀ b, H b = match ls.find? fun p => p.P == b with | some _ => some (.tbl #[]) | none => seen K a vs ns b := fun b => by rw [← hHdef]; rfl
  have tbl : ∀ p ∈ ls, H p.P = some (.tbl #[]) := fun p hp => by rw [hH, find_one nd hp]
  have cases' : ∀ {b : Addr} {u : HO}, H b = some u → (∃ p ∈ ls, p.P = b ∧ u = .tbl #[]) ∨ (K.lookup a = none ∧ b = a ∧ u = .frz { cls := .type "list", data := .seq vs.toArray } (.lst (ns.map V.int))) := fun {b u} h => by
    rw [hH] at h
    cases e : ls.find? fun p => p.P == b with
    | some p => rw [e] at h; cases h; exact .inl ⟨p, (find_mem e).1, (find_mem e).2, rfl⟩
    | none => rw [e] at h; exact .inr (seen_at h)
  have hHok : HOk P w H s.heap := fun b u h => by
    rcases cases' h with ⟨p, hp, e, rfl⟩ | ⟨_, e1, e2⟩
    · rw [← e]; exact hT p hp
    · rw [e1, e2]
      exact ⟨ha, by rw [List.length_map]; exact hl, vs, _, rv, ha⟩
  have keepB : ∀ {b : Addr} {o : Obj}, s.heap.get? b = some o → H b = none → (hidT s.heap H).get? b = some o := fun e n => hidT_get e n
  -- what is tracked is a list or an empty table
  have noH : ∀ {b : Addr} {o : Obj}, s.heap.get? b = some o → (∀ xs n, o.data ≠ .seq xs n) → o.data ≠ .fields #[] → H b = none := fun {b o} e n1 n2 => by
    cases q : H b with
    | none => rfl
    | some u =>
      rcases cases' q with ⟨p, hp, ep, _⟩ | ⟨_, eb, _⟩
      · rw [← ep, hT p hp] at e; cases e; exact absurd rfl n2
      · rw [eb, ha] at e; cases e; exact absurd rfl (n1 _ _)
  have dictN : ∀ {b : Addr} {m : Str → Option Value}, s.heap.Ns b m → (hidT s.heap H).Ns b m := fun {b m} ⟨o, es, ep, e, d, r⟩ => by
    refine ⟨o, es, ep, keepB e (noH e (fun xs n z => ?_) fun z => ?_), d, r⟩
    · rw [d] at z; cases z
    · rw [d] at z; cases z
  have hKb : K.In (hidT s.heap H) := fun b o e => keepB (KX b o e) (by
    cases q : H b with
    | none => rfl
    | some u =>
      rcases cases' q with ⟨p, hp, ep, _⟩ | ⟨n, eb, _⟩
      · have := nT p hp; rw [ep, e] at this; cases this
      · rw [eb, n] at e; cases e)
  have TB : ∀ p ∈ ls, LamX.TabB (hidT s.heap H) mg p.c p.P := fun p hp => by
    refine ⟨?_, ?_, fun z => ?_⟩
    · obtain ⟨o, us, file, tf, flags, tg, inF, text, tt, e1, r1, r2, r3, rest⟩ := C p hp
      refine ⟨o, us, file, tf, flags, tg, inF, text, tt, keepB e1 (noH e1 (fun xs n z => ?_) fun z => ?_), r1, r2, r3, rest⟩
      · rw [r2] at z; cases z
      · rw [r2] at z; cases z; simp at r3
    · obtain ⟨bm, ob, b1, b2, b3, b4, b5, b6⟩ := hbm
      refine ⟨bm, ob, b1, b2, fun q => ?_, fun q => ?_, keepB b3 (noH b3 (fun xs n z => ?_) fun z => ?_), b4, b5, b6⟩
      · obtain ⟨o, es, ep, e, hd, _⟩ := hns
        rw [q, e] at b3
        cases b3
        rw [hd] at b6; cases b6
      · rw [q, hT p hp] at b3; cases b3; cases b6
      · rw [b6] at z; cases z
      · rw [b6] at z; cases z
    · obtain ⟨o, es, ep, e, hd, _⟩ := hns
      rw [z, hT p hp] at e
      cases e; cases hd
  have e0 : Env0 P w K mg (hidT s.heap H) callerA [] s H :=
    ⟨rfl, ⟨hKb, dictN hns, ⟨mb, dictN hb, hbb⟩, let ⟨mc, h1, h2⟩ := hlim; ⟨mc, dictN h1, h2⟩⟩, fun b o e => of_hidT e, Nat.le_of_eq (hidT_size _ _), trivial, fun b hb => (List.not_mem_nil hb).elim, hHok, .of_eq hg⟩
  generalize hGdef : markT ls (seen K a vs ns) = G
  have hG : ∀ b, G b = match ls.find? fun p => p.P == b with | some p => some (.tbl #[Value.str p.q 0]) | none => seen K a vs ns b := fun b => by rw [← hGdef]; rfl
  have gh : Ex G H := fun b o h n => by
    rw [hG] at h
    cases e : ls.find? fun p => p.P == b with
    | some p => rw [e] at h; cases h; exact absurd rfl (n _)
    | none => rw [e] at h; rw [hH, e]; exact h
  have tb : Tb G H := fun b ps h => by
    rw [hG] at h
    cases e : ls.find? fun p => p.P == b with
    | some p =>
      rw [e] at h; cases h
      refine ⟨_, _, rfl, ?_⟩
      obtain ⟨m1, m2⟩ := find_mem e
      rw [← m2]
      exact .nil (tbl p m1)
    | none => rw [e] at h; obtain ⟨_, _, z⟩ := seen_at h; cases z
  have mk : ∀ p ∈ ls.map fun p => (p.P, p.q), G p.1 = some (.tbl #[Value.str p.2 0]) := fun p hp => by
    obtain ⟨r, hr, rfl⟩ := List.mem_map.mp hp
    show G r.P = _
    rw [hG, find_one nd hr]
  have mk2 : ∀ b ps, G b = some (.tbl ps) → ∃ p ∈ ls.map fun p => (p.P, p.q), p.1 = b := fun b ps h => by
    rw [hG] at h
    cases e : ls.find? fun p => p.P == b with
    | some p => exact ⟨(p.P, p.q), List.mem_map.mpr ⟨p, (find_mem e).1, rfl⟩, (find_mem e).2⟩
    | none => rw [e] at h; obtain ⟨_, _, z⟩ := seen_at h; cases z
  have hSq : SqL K G a (ns.map V.int) := by
    cases hk : K.lookup a with
    | none => exact .inl (.inr ⟨{ cls := .type "list", data := .seq vs.toArray }, by rw [hG, fa0]; unfold seen; rw [hk]; exact if_pos rfl⟩)
    | some o =>
      have e := KX a o hk
      rw [ha] at e
      cases e
      exact .inr ⟨_, vs.toArray, _, hk, rfl, rfl, rfl, by rw [List.size_toArray, hi.length]; exact hl, by simpa using rv⟩
  have R : Rep ⟨K, ls.map fun p => (p.P, p.q), Tr H, G, H⟩ (Tr H) G H ([V.ref a].map some) [.dat (.scr ns)] := by
    refine ⟨gh, tb, ⟨fun _ h => h, .refl, mk, mk2⟩, fun _ h => h, rfl, fun i d h => ?_, fun i o h => ?_, fun i j o u p h => ?_⟩
    · match i, h with
      | 0, h => cases h; exact ⟨_, rfl, .scr hSq⟩
    · match i, h with
      | 0, h => cases h
    · match i, h with
      | 0, h => cases h
  obtain ⟨f', fd, hm', _, hbd, hfn⟩ := (hf _ hKb (dictN hns) TB).ex
  rw [hy] at hm'
  cases hm'
  have hbind := hbd s [.ref a] KX rfl
  refine codeAny_mono (hfn.run callerA [] s H ⟨[.ref a], []⟩ [.ref a] [.ref a] _ _ _ _ noX (fun v _ => v = .bl true) L2.E0 hr rfl e0 hbind (.cons rfl .nil) rfl R hF (fun v G' H' as' r S' RA rr _ q => ?_) lk_no) fun r s' h => ?_
  · subst q
    cases rr with
    | dat z => cases z; rfl
  · match r, h with
    | .ok (.ret u), ⟨v, H', os, bare, un, hok', r', q⟩ =>
      have q : v = .bl true := q
      subst q
      have r' : u = Value.bool true := r'
      subst r'
      have grown : ∀ p ∈ ls, ∃ more : Array Value, s'.heap.get? p.P = some { cls := .none, data := .fields more } := fun p hp => by
        obtain ⟨more, z⟩ := un.tbls p.P #[] (tbl p hp)
        exact ⟨_, hok' p.P _ z⟩
      have same : ∀ b o, (∀ p ∈ ls, p.P ≠ b) → s.heap.get? b = some o → s'.heap.get? b = some o := fun b o nb e => by
        cases q : H b with
        | none => exact un.keep b o e q (fun z => List.not_mem_nil z) (fun z => List.not_mem_nil z)
        | some u =>
          rcases cases' q with ⟨p, hp, ep, _⟩ | ⟨_, e1, e2⟩
          · exact absurd ep (nb p hp)
          · rw [e2] at q
            have z2 := un.frzs b _ _ q
            obtain ⟨g, _⟩ := hok' b _ z2
            rw [e1] at e ⊢
            rw [ha] at e; cases e
            rw [e1] at g
            exact g
      refine ⟨rfl, ⟨fun b o e => ?_, fun b o e => ?_⟩, os, bare⟩
      · by_cases hb : ∃ p ∈ ls, p.P = b
        · obtain ⟨p, hp, rfl⟩ := hb
          obtain ⟨more, hm⟩ := grown p hp
          rw [hT p hp] at e
          cases e
          exact .inr (.inl ⟨((C p hp).tab (hT p hp)).isCodeTable, rfl, #[], more, rfl, by rw [Array.empty_append]; exact hm⟩)
        · exact .inl (same b o (fun p hp z => hb ⟨p, hp, z⟩) e)
      · by_cases hb : ∃ p ∈ ls, p.P = b
        · obtain ⟨p, hp, rfl⟩ := hb
          obtain ⟨more, hm⟩ := grown p hp
          exact ⟨_, hm⟩
        · exact ⟨o, same b o (fun p hp z => hb ⟨p, hp, z⟩) e⟩
    | .ok .next, h => exact False.elim h
    | .ok .brk, h => exact False.elim h
    | .ok .cont, h => exact False.elim h
    | .error e, ⟨_, _, _, _, _, _, _, _, _, _, _, _, z⟩ => exact False.elim z
theorem law_walks {l : PySem.W.OpenLaw} {n k : Nat} {q : Program} {loose : List Str} {XP : (Str → Option Value) → Heap → Prop} {YP : World → Heap → Prop} {d : DefRec} {K : Params → PySem.W.Frag} {F : World → Fd} {x : Str} {ls : List Lm}
    (hn : l.most = some n) (hn2 : n ≤ sizeLine) (hdf : d.params.defaults = []) (hr : Room k callerA) (hY : ∀ (w : World) (h : Heap), YP w h → (K w.params).In h)
    (nd : (ls.map (·.P)).Nodup) (hrec : ∀ p ∈ ls, ((PyProof.Rows.recsOf q).find? fun e => e.name == p.x).isSome = true)
    (htab : ∀ (w : World), ∀ p ∈ ls, PySem.W.tabIn (K w.params) p.x = some (p.c, p.P) ∧ (K w.params).lookup p.P = none)
    (hf : ∀ (w : World) (mg : Str → Option Value) (h : Heap), (K w.params).In h → h.Ns mainGlobals mg →
      ∀ base : Heap, (K w.params).In base → base.Ns mainGlobals mg → (∀ p ∈ ls, LamX.TabB base mg p.c p.P) → Cal l.prog w (K w.params) (ls.map fun p => (p.P, p.q)) mg base k d.name [x] (F w))
    (hF : ∀ (w : World) (ns : List Int), ns.length ≤ n → (∀ z ∈ ns, Builtin.Int.intBits z ≤ 1048576) → F w [.dat (.scr ns)] (fun r _ => r = .dat (.bl true)) noX) :
    PySem.W.WalkO q loose XP YP l.row.toRowW d [] (fun f vs => PySem.call f vs) := by
  refine Att.attach_callB hn hdf fun w s₀ s₁ mg mb fa o pm cd doc a vs ns G Y ho hd hcd hmg hobj hints hlen hbits hg => ?_
  have KX := hY w _ Y
  have tabs : ∀ p ∈ ls, PySem.W.CodeHd s₁.heap p.c p.P ∧ s₁.heap.get? p.P = some { cls := .none, data := .fields #[] } := fun p hp => by
    obtain ⟨dr, hdr⟩ := Option.isSome_iff_exists.mp (hrec p hp)
    exact PySem.W.tab_of G.T KX hdr (htab w p hp).1
  exact law_runs KX G.T.g G.T.b G.T.builtins G.T.nolimit hg (fun p hp => (tabs p hp).2) (fun p hp => (htab w p hp).2) (fun p hp => (tabs p hp).1) nd G.T.bmain hobj hints (Nat.le_trans hlen hn2) hr (hf w mg _ KX G.T.g) hmg (hF w ns hlen hbits)
end DL

set_option Elab.async false
set_option linter.all false
set_option maxRecDepth 100000
set_option maxHeartbeats 2000000
namespace DL
open PySem L2
def pin (l : List Nat) : Nat → Bool := fun i => l.contains i
section
variable {X : CxT} {K : KT} {T : Nat → Bool} {e : Expr} {es : List Expr} {te : TE} {t : TA} {we : We} {wa : Wa} {x : Str} {p pos : Pos} {id Ty : String} {r : List V → Hp → VK → Prop} {D : Dn}
theorem de_callB (h : DB X (.builtin id) r D) (hm : X.mg x = none) (hv : bootBuiltins x = some (.builtin id)) (ha : DA X (e :: es) t wa) (hg : Gl X x := by rfl) (hn : x ≠ "__name__" := by decide) (hdb : (x == ("__debug__" : Str)) = false := by decide)
    (he : starEach (e :: es) X.env = (false, eval e X.env) :: starEach es X.env := by rfl) (hpl : (backTo pos (starEach es X.env)).any (·.1) = false := by rfl) : DE X (.Call (.Name x p) (e :: es) [] pos) (tCB r t) (wCB D wa) := ⟨pe_callB h.c hg hm hv ha.pa hn hdb he hpl, we_cb h.ok ha.wa⟩
theorem de_callT (h : DB X (.type Ty) r D) (hm : X.mg x = none) (hv : bootBuiltins x = some (.type Ty)) (ha : DA X (e :: es) t wa) (hg : Gl X x := by rfl) (hn : x ≠ "__name__" := by decide) (hdb : (x == ("__debug__" : Str)) = false := by decide)
    (he : starEach (e :: es) X.env = (false, eval e X.env) :: starEach es X.env := by rfl) (hpl : (backTo pos (starEach es X.env)).any (·.1) = false := by rfl) : DE X (.Call (.Name x p) (e :: es) [] pos) (tCB r t) (wCB D wa) := ⟨pe_callTy h.c hg hm hv ha.pa hn hdb he hpl, we_cb h.ok ha.wa⟩
/-- list(range(..)) -/
def wLstRg (wi : Wi) : We := fun ρ Q => wi ρ fun ds ρ1 => Q (.own (.lst ds)) ρ1
def wRg1 (we : We) : Sl → (Int → Int → Sl → Prop) → Prop := fun ρ Q => we ρ fun r ρ1 => match r with
  | .dat (.int n) => Q 0 n ρ1
  | _ => False
def wRg2 (wa wb : We) : Sl → (Int → Int → Sl → Prop) → Prop := fun ρ Q => wa ρ fun r ρ1 => match r with
  | .dat (.int i) => wb ρ1 fun r' ρ2 => match r' with
    | .dat (.int j) => Q i j ρ2
    | _ => False
  | _ => False
def WRg (K : KT) (te : L2.St → Hp → (Int → Int → Hp → Prop) → Prop) (w : Sl → (Int → Int → Sl → Prop) → Prop) : Prop := ∀ (B : Addr → Prop) (G H : Hp) (σ : L2.St) (ρ : Sl) (Q : Int → Int → Sl → Prop) (QV : Int → Int → Hp → Prop), Rep K B G H σ ρ → w ρ Q →
  (∀ i j G' H' ρ', Stp B G H G' H' → Rep K B G' H' σ ρ' → Q i j ρ' → QV i j H') → te σ H QV
structure DRg (X : CxT) (e : Expr) (te : L2.St → Hp → (Int → Int → Hp → Prop) → Prop) (w : Sl → (Int → Int → Sl → Prop) → Prop) : Prop where
  pr : PRg X e te
  wr : WRg X.K te w
theorem drg_1 {a : Expr} {ta : TE} {wA : We} (hm : X.mg "range" = none) (ha : DE X a ta wA) (hg : Gl X "range" := by rfl) (na : starEach [a] X.env = (false, eval a X.env) :: starEach [] X.env := by rfl) : DRg X (.Call (.Name "range" p) [a] [] pos) (tRg1 ta) (wRg1 wA) :=
  ⟨prg_1 hg hm ha.pe na, fun B G H σ ρ Q QV R q k => ha.we B G H σ ρ _ _ R q fun v G1 H1 ρ1 r S1 R1 rr q1 => by
    match r, rr, q1 with
    | .dat (.int n), .dat (.int _), q1 => exact ⟨n, rfl, k 0 n G1 H1 ρ1 S1 R1 q1⟩⟩
def wListRg (w : Sl → (Int → Int → Sl → Prop) → Prop) : We := fun ρ Q => w ρ fun i j ρ1 => RgOk i j ∧ Q (.own (.lst (rgP i (j - i).toNat))) ρ1
def wTupRg (w : Sl → (Int → Int → Sl → Prop) → Prop) : We := fun ρ Q => w ρ fun i j ρ1 => RgOk i j ∧ Q (.dat (.tup (rgP i (j - i).toNat))) ρ1
theorem rp_rg {G : Hp} (i j : Int) : RpAll K G (rgV i j) (rgP i (j - i).toNat) := by
  unfold rgV rgP
  induction (List.range (j - i).toNat) with
  | nil => exact .nil
  | cons n ns ih => exact .cons (.int _) ih
theorem de_listRg {tr : L2.St → Hp → (Int → Int → Hp → Prop) → Prop} {wr : Sl → (Int → Int → Sl → Prop) → Prop} (hc : X.calm = true) (hm : X.mg "list" = none) (h : DRg X e tr wr) (hg : Gl X "list" := by rfl) (na : starEach [e] X.env = (false, eval e X.env) :: starEach [] X.env := by rfl) :
    DE X (.Call (.Name "list" p) [e] [] pos) (tLstRg tr) (wListRg wr) := ⟨pe_listRg hc hg hm h.pr na, fun B G H σ ρ Q QV R q k => h.wr B G H σ ρ _ _ R q fun i j G1 H1 ρ1 S1 R1 ⟨ho, q1⟩ =>
  ⟨ho, fun n hn => Gv.new (K := X.K) (Q := fun r => Q r ρ1) (fun v G' H' r S3 R3 rr3 q3 => k v G' H' ρ1 r (S1.trans S3) R3 rr3 q3) R1 hn (.lst (rp_rg i j)) q1⟩⟩
variable {a b c : Expr} {ta tb tc : TE} {wA wB' wC' : We} {op op' : CmpOp} {r1 r2 : R2} {D1 D2 : DL.D2}
def wChain (D1 D2 : DL.D2) (wA wB' wC' : We) : We := fun ρ Q => wA ρ fun ra ρ1 => (ra.cold = true ∨ ∃ d, ra.pd ρ1 = some d) ∧ wB' ρ1 fun rb ρ2 => (rb.cold = true ∨ ∃ d, rb.pd ρ2 = some d) ∧ look ra ρ2 fun x => look rb ρ2 fun y => D1 x y fun z => match z with
  | .dat (.bl true) => wC' ρ2 fun rc ρ3 => look rb ρ3 fun y' => look rc ρ3 fun w => D2 y' w fun z' => Q z' ρ3
  | .dat (.bl false) => Q (.dat (.bl false)) ρ2
  | _ => False
theorem de_cal {k n : Nat} {ps : List Str} {F : Fd} (C : Cal X.prog X.w X.cx.K X.T X.mg X.base k x ps F) (hr : Room k X.A) (hgd : X.A.guards = some []) (ha : DA X (e :: es) t wa) (hg : Gl X x := by rfl) (hdb : (x == ("__debug__" : Str)) = false := by decide) (he : starEach (e :: es) X.env = (false, eval e X.env) :: starEach es X.env := by rfl) (hpl : (backTo pos (starEach es X.env)).any (·.1) = false := by rfl) (hn : ps.length = n := by rfl) :
    DE X (.Call (.Name x p) (e :: es) [] pos) (tCallG X.cx.K X.T n F X.W t) (wCall n F X.Ξ wa) := by
  subst hn
  obtain ⟨f, fd, h1, h2, h3, h4⟩ := C.ex
  exact de_call h4 hr hgd hg h1 h2 h3 ha hdb he hpl
/-- a call that raises nothing -/
theorem de_calN {KF : PySem.W.Frag} {Ts : List (Addr × Str)} {k n : Nat} {ps : List Str} {F : Fd} (C : Cal X.prog X.w KF Ts X.mg X.base k x ps F) (hr : Room k X.A) (hgd : X.A.guards = some []) (ha : DA X (e :: es) t wa) (hK : X.cx.K = KF := by rfl) (hT : X.T = Ts := by rfl) (hg : Gl X x := by rfl) (hdb : (x == ("__debug__" : Str)) = false := by decide) (he : starEach (e :: es) X.env = (false, eval e X.env) :: starEach es X.env := by rfl) (hpl : (backTo pos (starEach es X.env)).any (·.1) = false := by rfl) (hn : ps.length = n := by rfl) :
    DE X (.Call (.Name x p) (e :: es) [] pos) (tCallG KF Ts n F (fun _ _ _ _ => False) t) (wCall n F noX wa) := by
  subst hn hK hT
  obtain ⟨f, fd, hm, hk, hb, F0⟩ := C.ex
  refine ⟨⟨fun pins s σ H Q I h => ?_⟩, we_call (K := X.K) lk_no ha.wa⟩
  refine wpAny_Call_Name_kw (ld_glob I hg hm ?_ hdb)
  refine PySem.W.callWith_K (h₀ := X.base) I.ok.mod.kin hk (thn (ha.pa.run pos pins s σ H _ I h) fun us s1 ⟨vs, H1, I1, r, q⟩ => ⟨I1.kIn, ?_⟩) he hpl
  obtain ⟨B, G, as, Q', Ξ, hl, R, hF, hk, hx⟩ := q
  have hb' := hb s1 us I1.kIn (by rw [List.append_nil, ← r.length]; exact hl)
  rw [List.append_nil] at hb'
  refine wpAny_call (codeAny_mono (F0.run X.A X.stack s1 H1 ⟨us, []⟩ us vs B G as Q' Ξ Q (fun _ _ _ => False) hr hgd I1.env0 hb' r hl R hF hk hx) fun r s' hq => ?_)
  match r, hq with
  | .ok (.ret u), hq => exact I1.after hq
  | .ok .next, hq => exact False.elim hq
  | .ok .brk, hq => exact False.elim hq
  | .ok .cont, hq => exact False.elim hq
  | .error e, ⟨_, _, _, _, _, _, _, _, _, _, _, _, z⟩ => exact False.elim z
/-- a call, with the written part, the tables and the wish by their own names -/
theorem de_calW {KF : PySem.W.Frag} {Ts : List (Addr × Str)} {W : WX} {Ξ : Xp} {k n : Nat} {ps : List Str} {F : Fd} (C : Cal X.prog X.w KF Ts X.mg X.base k x ps F) (hr : Room k X.A) (hgd : X.A.guards = some []) (ha : DA X (e :: es) t wa) (hK : X.cx.K = KF := by rfl) (hT : X.T = Ts := by rfl) (hW : X.W = W := by rfl) (hΞ : X.Ξ = Ξ := by rfl) (hg : Gl X x := by rfl) (hdb : (x == ("__debug__" : Str)) = false := by decide) (he : starEach (e :: es) X.env = (false, eval e X.env) :: starEach es X.env := by rfl) (hpl : (backTo pos (starEach es X.env)).any (·.1) = false := by rfl) (hn : ps.length = n := by rfl) :
    DE X (.Call (.Name x p) (e :: es) [] pos) (tCallG KF Ts n F W t) (wCall n F Ξ wa) := by
  subst hK hT hW hΞ
  exact de_cal C hr hgd ha hg hdb he hpl hn
/-- a def of the top; cd: its code object, where that matters -/
structure Dfn (KF : PySem.W.Frag) (mg : Str → Option Value) (x : Str) (st : Stmt) (cd : Option Addr) : Prop where
  ex : ∃ (f : Addr) (oc kV doc pm cdv ct : Value) (od an : Option Addr) (osl : Array (Option Value)), mg x = some (.ref f) ∧ PySem.W.keepIn KF (.ref f) = true ∧
    KF.lookup f = some ⟨oc, od, .func (PySem.W.fnOf x x (defArgs st) (defBody st) (defScope st) .none kV doc pm an cdv ct), osl⟩ ∧ PySem.W.codeIn KF cdv x = true ∧ ∀ c, cd = some c → cdv = .ref c
/-- a def, its text known -/
structure CalS (P : Program) (w : World) (KF : PySem.W.Frag) (Ts : List (Addr × Str)) (mg : Str → Option Value) (base : Heap) (k : Nat) (x : Str) (st : Stmt) (ps : List Str) (F : Fd) : Prop where
  ex : ∃ (f : Addr) (kV doc pm cdv ct : Value) (an : Option Addr), mg x = some (.ref f) ∧ PySem.W.keepIn KF (.ref f) = true ∧ FnG P w KF Ts mg base k f (PySem.W.fnOf x x (defArgs st) (defBody st) (defScope st) .none kV doc pm an cdv ct) ps F
theorem CalS.cal {P : Program} {w : World} {KF : PySem.W.Frag} {Ts : List (Addr × Str)} {mg : Str → Option Value} {base : Heap} {k : Nat} {x : Str} {st : Stmt} {ps : List Str} {F : Fd} (C : CalS P w KF Ts mg base k x st ps F)
    (h : ∀ (kV doc pm : Value) (an : Option Addr) (cdv ct : Value) (us : List Value), us.length = ps.length → bindArgs (PySem.W.fnOf x x (defArgs st) (defBody st) (defScope st) .none kV doc pm an cdv ct) ⟨us, []⟩ = pure (ps.zip us)) : Cal P w KF Ts mg base k x ps F := by
  obtain ⟨f, kV, doc, pm, cdv, ct, an, h1, h2, h3⟩ := C.ex
  exact ⟨f, _, h1, h2, .all (h kV doc pm an cdv ct), h3⟩
/-- .. called by the names of its parameters: ks, as they are written; pk: where each parameter's value stands among them -/
def pick {α : Type} (pk : List Nat) (xs : List α) : List α := pk.filterMap fun i => xs[i]?
structure CalW (P : Program) (w : World) (KF : PySem.W.Frag) (Ts : List (Addr × Str)) (mg : Str → Option Value) (base : Heap) (k : Nat) (x : Str) (ps ks : List Str) (pk : List Nat) (F : Fd) : Prop where
  ex : ∃ f fd, mg x = some (.ref f) ∧ PySem.W.keepIn KF (.ref f) = true ∧ (∀ (s : Shared) (ws : List Value), ws.length = ks.length → BindsTo s fd ⟨[], ks.zip ws⟩ (ps.zip (pick pk ws))) ∧ FnG P w KF Ts mg base k f fd ps F
theorem CalS.kw {P : Program} {w : World} {KF : PySem.W.Frag} {Ts : List (Addr × Str)} {mg : Str → Option Value} {base : Heap} {k : Nat} {x : Str} {st : Stmt} {ps ks : List Str} {pk : List Nat} {F : Fd} (C : CalS P w KF Ts mg base k x st ps F)
    (h : ∀ (kV doc pm : Value) (an : Option Addr) (cdv ct : Value) (ws : List Value), ws.length = ks.length → bindArgs (PySem.W.fnOf x x (defArgs st) (defBody st) (defScope st) .none kV doc pm an cdv ct) ⟨[], ks.zip ws⟩ = pure (ps.zip (pick pk ws))) : CalW P w KF Ts mg base k x ps ks pk F := by
  obtain ⟨f, kV, doc, pm, cdv, ct, an, h1, h2, h3⟩ := C.ex
  exact ⟨f, _, h1, h2, fun s ws hl => .of_eq (h kV doc pm an cdv ct ws hl), h3⟩
theorem cal_of {P : Program} {w : World} {KF : PySem.W.Frag} {Ts : List (Addr × Str)} {mg : Str → Option Value} {base : Heap} {st : Stmt} {cd : Option Addr} {N ps : List Str} {k : Nat} {wb : Xp → Ws} (D : Dfn KF mg x st cd) (S : FnScope N ps (defScope st))
    (hbody : ∀ (f : Addr) (cdv : Value) (hcd : ∀ c, cd = some c → cdv = .ref c) (A : Around) (outer : List PySem.Env) (s : Shared) (H : Hp) (E : XK) (B : Addr → Prop) (G : Hp) (Ξ : Xp) (lk : Lk KF B G H Ξ (fun cls d _ H' => E cls d H')), Room k (A.deeper (PyProof.Rows.envOfC x (defScope st) s.heap.objs.size f cdv)) → (A.deeper (PyProof.Rows.envOfC x (defScope st) s.heap.objs.size f cdv)).guards = some [] →
      ∃ t, DSs (cxT P w KF Ts mg base N x (defScope st) f cdv A outer s H E B G Ξ lk) T (defBody st) t (wb Ξ)) : CalS P w KF Ts mg base (k + 1) x st ps (mkF T N.length wb) := by
  obtain ⟨f, oc, kV, doc, pm, cdv, ct, od, an, osl, h1, h2, h3, h4, h5⟩ := D.ex
  exact ⟨f, kV, doc, pm, cdv, ct, an, h1, h2, fng_of h3 h4 S (hbody f cdv h5)⟩
/-- never come to -/
def wNever : Ws := fun _ _ => False
end
end DL
namespace DL
open PySem L2
/-- a constant of the module -/
structure Const (KF : PySem.W.Frag) (mg : Str → Option Value) (x : Str) (d : PD) : Prop where
  ex : ∃ v u, mg x = some u ∧ RelV v u ∧ ∀ G, Rp KF G v d
/-- a constant's reading: its value, whatever stands for it -/
def tK (K : PySem.W.Frag) (d : PD) : TE := fun _ H Q => ∀ v, (∀ G, Rp K G v d) → Q v H
theorem de_const {X : CxT} {x : Str} {d : PD} {pos : Pos} (C : Const X.cx.K X.mg x d) (hg : Gl X x := by rfl) (hd : (x == ("__debug__" : Str)) = false := by decide) : DE X (.Name x pos) (tK X.cx.K d) (wC d) := by
  obtain ⟨v, u, h1, h2, h3⟩ := C.ex
  exact ⟨⟨fun _ _ _ H _ I h => ld_glob I hg h1 ⟨v, H, I, h2, h v h3⟩ hd⟩, fun B G H σ ρ Q QV R q k v' h' => k v' G H ρ _ .refl R (.dat (h' G)) q⟩
end DL

set_option Elab.async false
set_option linter.all false
set_option maxRecDepth 100000
set_option maxHeartbeats 2000000
namespace DL
open PySem L2
section
variable {X : CxT} {K : KT} {T : Nat → Bool} {a b c e : Expr} {ta tb tc te : TE} {wA wB' wC' we : We} {p p2 pos : Pos} {op op' : CmpOp} {r1 r2 : R2} {D1 D2 : DL.D2}
/-! ### a < b < c -/
theorem we_chain (h1 : Ok2 K r1 D1) (h2 : Ok2 K r2 D2) (ha : WE K ta wA) (hb : WE K tb wB') (hc : WE K tc wC') : WE K (tChain r1 r2 ta tb tc) (wChain D1 D2 wA wB' wC') := fun B G H σ ρ Q QV R q k =>
  ha B G H σ ρ _ _ R q fun v G1 H1 ρ1 ra S1 R1 rr1 ⟨c1, q1⟩ => by
    obtain ⟨G1', S1', R1', rr1', cc1, ec1⟩ := rr1.cool R1 c1
    refine hb B G1' H1 σ ρ1 _ _ R1' q1 fun u G2 H2 ρ2 rb S2 R2 rr2 ⟨c2, q2⟩ => ?_
    obtain ⟨G2', S2', R2', rr2', cc2, ec2⟩ := rr2.cool R2 c2
    obtain ⟨x, ex, q2⟩ := ok_some q2
    obtain ⟨y, ey, q2⟩ := ok_some q2
    have vx := (rr1'.stay (H' := H2) (ρ' := ρ2) cc1 (S2.g.trans S2'.g)).vw R2' ((ec1 ρ2).trans ex)
    have vy := rr2'.vw R2' ((ec2 ρ2).trans ey)
    have S := ((S1.trans S1').trans S2).trans S2'
    refine h1 B G2' H2 σ ρ2 v u x y _ _ R2' vx vy q2 fun z G3 H3 rz S3 R3 rr3 q3 => ?_
    match rz, rr3, q3 with
    | .dat (.bl true), .dat (.bl _), q3 =>
      refine ⟨true, rfl, ?_⟩
      rw [if_pos rfl]
      refine hc B G3 H3 σ ρ2 _ _ R3 q3 fun w G4 H4 ρ3 rc S4 R4 rr4 q4 => ?_
      obtain ⟨y', ey', q4⟩ := ok_some q4
      obtain ⟨w', ew', q4⟩ := ok_some q4
      have vy' := (rr2'.stay (H' := H4) (ρ' := ρ3) cc2 (S3.g.trans S4.g)).vw R4 ((ec2 ρ3).trans ey')
      refine h2 B G4 H4 σ ρ3 u w y' w' (fun r => Q r ρ3) _ R4 vy' (rr4.vw R4 ew') q4 fun z' G5 H5 rz' S5 R5 rr5 q5 => ?_
      exact k z' G5 H5 ρ3 rz' (((S.trans S3).trans S4).trans S5) R5 rr5 q5
    | .dat (.bl false), .dat (.bl _), q3 =>
      refine ⟨false, rfl, ?_⟩
      rw [if_neg Bool.false_ne_true]
      exact k _ G3 H3 ρ2 _ (S.trans S3) R3 (.dat (.bl false)) q3
theorem de_chain (h1 : DC X op r1 D1) (h2 : DC X op' r2 D2) (ha : DE X a ta wA) (hb : DE X b tb wB') (hc : DE X c tc wC') (hm : lastMarks [op, op'] [b, c] = false := by with_unfolding_all rfl) : DE X (.Compare a [op, op'] [b, c] pos) (tChain r1 r2 ta tb tc) (wChain D1 D2 wA wB' wC') := ⟨pe_chain h1.op h2.op ha.pe hb.pe hc.pe hm, we_chain h1.ok h2.ok ha.we hb.we hc.we⟩
/-! ### isinstance(x, T), T a built-in class -/
def PD.ty : PD → Option String
  | .non => some "NoneType"
  | .bl _ => some "bool"
  | .int _ => some "int"
  | .str _ => some "str"
  | .lst _ => some "list"
  | .scr _ => some "list"
  | .tup _ => some "tuple"
  | .dct _ => some "dict"
  | _ => none
theorem ty_of {G H : Hp} {v : V} {d : PD} {t : String} (e : Ex G H) (h : Vw K G H v d) (ht : d.ty = some t) : TyX K H v (.type t) := by
  cases d with
  | non => cases ht; rw [h.non]; exact .base .non
  | bl b => cases ht; rw [h.bl]; exact .base (.bl b)
  | int i => cases ht; rw [h.int]; exact .base (.int i)
  | str x => cases ht; rw [h.str]; exact .base (.str x)
  | lst xs => cases ht; obtain ⟨q, us, rfl, hq, _⟩ := h.lst e; exact .base (.lst hq)
  | scr ns =>
    cases ht
    obtain ⟨q, rfl, hq⟩ := h.scr e
    rcases hq with (hq | ⟨o, hq⟩) | ⟨o, its, n, hk, hc, _⟩
    · exact .base (.lst hq)
    · exact .base (.frz hq)
    · exact .kList hk hc
  | tup xs =>
    cases ht
    obtain ⟨q, us, rfl, hq, _⟩ := h.tup e
    rcases hq with (hq | ⟨o, hq⟩) | ⟨o, its, n, hk, hc, _⟩
    · exact .base (.tup hq)
    · exact .fTuple hq
    · exact .kTuple hk hc
  | dct kvs =>
    cases ht
    rcases h with h | ⟨q, ho, o, rfl, h1, h2, h3⟩
    · cases h with
      | dct hq _ => exact .base (.dK (e _ _ hq nt_dK))
    · cases h2 with
      | lst => cases h3
      | dK => exact .base (.dK h1)
      | dT _ _ => cases h3
  | ins => cases ht
  | err => cases ht
  | fn => cases ht
def isa (t T : String) : Bool := t == T || (t == "bool" && T == "int")
def kitsOk (T : String) : Bool := ["NoneType", "bool", "int", "str", "list", "tuple", "dict"].all fun t => decide (kitB t T = some (isa t T))
theorem kit_all {T : String} (h : kitsOk T = true) {d : PD} {t : String} (ht : d.ty = some t) : kitB t T = some (isa t T) := by
  have m : t ∈ ["NoneType", "bool", "int", "str", "list", "tuple", "dict"] := by
    cases d <;> first | (cases ht; done) | (cases ht; simp)
  exact of_decide_eq_true (List.all_eq_true.mp h t m)
def wIsi (T : String) (we : We) : We := fun ρ Q => we ρ fun r ρ1 => warm r ρ1 ∧ look r ρ1 fun d => ok d.ty fun t => Q (.dat (.bl (isa t T))) ρ1
def tIsi (K : PySem.W.Frag) (T : String) (te : TE) : TE := tCB (rIsi K) (tCons te (tCons (tC (.ty T)) tNil))
theorem we_isi {Ty : String} (hk : kitsOk Ty = true) (h : WE K te we) : WE K (tIsi K Ty te) (wIsi Ty we) := fun B G H σ ρ Q QV R q k =>
  h B G H σ ρ _ _ R q fun v G1 H1 ρ1 r S1 R1 rr ⟨_, q1⟩ => by
    obtain ⟨d, ed, q1⟩ := ok_some q1
    obtain ⟨t, et, q1⟩ := ok_some q1
    exact ⟨v, .ty Ty, .type t, .type Ty, _, rfl, .ty Ty, ty_of R1.gh (rr.vw R1 ed) et, kit_ty (kit_all hk et), k _ G1 H1 ρ1 _ S1 R1 (.dat (.bl _)) q1⟩
theorem de_isi {Ty : String} {x : Str} (hk : kitsOk Ty = true) (hm : X.mg "isinstance" = none) (hm2 : X.mg x = none) (hv : bootBuiltins x = some (.type Ty)) (ha : DE X a ta wA) (hg : Gl X "isinstance" := by rfl) (hg2 : Gl X x := by rfl) (hn : x ≠ "__name__" := by decide) (hdb : (x == ("__debug__" : Str)) = false := by decide)
    (hs : starEach (a :: [.Name x p2]) X.env = (false, eval a X.env) :: starEach [.Name x p2] X.env := by rfl) (hpl : (backTo pos (starEach [.Name x p2] X.env)).any (·.1) = false := by rfl) : DE X (.Call (.Name "isinstance" p) [a, .Name x p2] [] pos) (tIsi X.K Ty ta) (wIsi Ty wA) :=
  ⟨pe_callB call_isi hg hm PyProof.Rows.boot_isinstance (pa_cons ha.pe (pa_cons (pe_bltn hg2 hm2 hv rfl hn hdb) pa_nil) hs) (by decide) (by decide) hs hpl, we_isi hk ha.we⟩
/-! ### one test in a comprehension -/
theorem de_lcIf {elt iter cnd tg : Expr} {scope : Scope} {own : List (Str × Nat)} {wi : TI} {wI : Wi} {g : TG} {wg : Wg} {tt : TT} {wt : Wt} (hc : X.calm = true) (hN : X.N.Nodup) (hv : (own.map (·.2)).Nodup) (hi : DI X tg iter wi wI) (okb : BlkOk X.N X.env.scope scope own)
    (hg : ∀ (s : Shared) (H : Hp) (C : Addr) (cl : List (Str × Addr)) (fp : List Addr), DG (X.blk s H scope (compEnvC scope cl C X.env) fp) T0 tg g wg) (ho : GOnly (own.map (·.2)) g)
    (ht : ∀ (s : Shared) (H : Hp) (C : Addr) (cl : List (Str × Addr)) (fp : List Addr), DT (X.blk s H scope (compEnvC scope cl C X.env) fp) cnd tt wt)
    (he : ∀ (s : Shared) (H : Hp) (C : Addr) (cl : List (Str × Addr)) (fp : List Addr), DE (X.blk s H scope (compEnvC scope cl C X.env) fp) elt te we) (hs : ∀ x, foldedSetIterable iter X.env x = pure x := by intro _; rfl) :
    DE X (.ListComp elt [⟨tg, iter, [cnd], 0⟩] scope pos) (tLc wi g tt te (own.map (·.2))) (wLc (own.map (·.2)) wI wg wt we) :=
  de_lc hc hN hv hi okb hg ho (fun s H C cl fp => pts_one (ht s H C cl fp).pt) (ht X.s_0 X.H_0 0 [] []).wt he hs
/-! ### enumerate of a list -/
def enumP (xs : List PD) : List PD := xs.mapIdx fun i x => .tup [.int (i : Nat), x]
theorem fresh_tup {B : Addr → Prop} {G H : Hp} {σ : L2.St} {ρ : Sl} {p : Addr} {xs : List V} {ds : List PD} (R : Rep K B G H σ ρ) (hp : H p = none) (h : RpAll K G xs ds) : ∃ G', Stp B G H G' (upd H p (.tup xs)) ∧ Rep K B G' (upd H p (.tup xs)) σ ρ ∧ Rp K G' (.ref p) (.tup ds) := by
  refine Gv.tup (K := K) (B := B) (G := G) (H := H) (σ := σ) (ρ := ρ) (Q := fun r => r = .dat (.tup ds)) (QV := fun v H' => ∃ G', Stp B G H G' H' ∧ Rep K B G' H' σ ρ ∧ Rp K G' v (.tup ds)) (fun v G' H' r S R' rr q => ?_) R hp h rfl
  subst q
  cases rr with
  | dat z => exact ⟨G', S, R', z⟩
theorem it_enum {G0 : Hp} {q : Addr} {vs : List V} {ds : List PD} (hG : ∀ G H, Ex G0 G → Ex G H → SqL K H q vs) (r : RpAll K G0 vs ds) : ItOk K G0 (Ite K q) (enumP ds) := fun B σ ρ G H e R => by
  have hq := hG G H e R.gh
  have hl : (enumP ds).length = ds.length := by unfold enumP; rw [List.length_mapIdx]
  refine ⟨fun i hi => ⟨vs, hq, by rw [r.length, ← hl]; exact hi⟩, fun i d hd => ?_⟩
  unfold enumP at hd
  rw [List.getElem?_mapIdx] at hd
  cases hx : ds[i]? with
  | none => rw [hx] at hd; cases hd
  | some x =>
    rw [hx] at hd
    cases hd
    obtain ⟨v, hv, rv⟩ := r.get hx
    refine ⟨⟨vs, v, hq, hv⟩, fun y H' ⟨t, w, ey, ht, eH, hw⟩ => ?_⟩
    have := hw vs hq
    rw [hv] at this; cases this
    subst ey; subst eH
    exact fresh_tup R ht (.cons (.int _) (.cons (rv.mono e) .nil))
def wEnum (wa : Wa) : Wi := fun ρ Q => wa ρ fun rs ρ1 => frz rs ρ1 fun ds ρ2 => match ds with
  | [.lst xs] => Q (enumP xs) ρ2
  | [.scr ns] => Q (enumP (ns.map .int)) ρ2
  | _ => False
/-! ### zip of two lists, of two tuples -/
def zipP : List PD → List PD → List PD
  | x :: xs, y :: ys => .tup [x, y] :: zipP xs ys
  | _, _ => []
theorem zipP_get : ∀ {xs ys : List PD} {i : Nat} {d : PD}, (zipP xs ys)[i]? = some d → ∃ x y, xs[i]? = some x ∧ ys[i]? = some y ∧ d = .tup [x, y]
  | [], _, _, _, h => by simp [zipP] at h
  | _ :: _, [], _, _, h => by simp [zipP] at h
  | x :: xs, y :: ys, 0, d, h => by simp [zipP] at h; exact ⟨x, y, rfl, rfl, h.symm⟩
  | x :: xs, y :: ys, i + 1, d, h => by
    have h : (zipP xs ys)[i]? = some d := by simpa [zipP] using h
    obtain ⟨u, v, h1, h2, h3⟩ := zipP_get h
    exact ⟨u, v, by simpa using h1, by simpa using h2, h3⟩
theorem zipP_len : ∀ {xs ys : List PD} {i : Nat}, (zipP xs ys).length ≤ i → xs.length ≤ i ∨ ys.length ≤ i
  | [], _, _, _ => .inl (Nat.zero_le _)
  | _ :: _, [], _, _ => .inr (Nat.zero_le _)
  | x :: xs, y :: ys, 0, h => by simp [zipP] at h
  | x :: xs, y :: ys, i + 1, h => by
    have h : (zipP xs ys).length ≤ i := by simpa [zipP] using h
    rcases zipP_len h with z | z
    · exact .inl (by simpa using z)
    · exact .inr (by simpa using z)
end
end DL

set_option Elab.async false
set_option linter.all false
set_option maxRecDepth 100000
set_option maxHeartbeats 2000000
namespace DL
open PySem L2
/-! ### own errors, as values -/
/-- what the written part says of an error class at C, whose maker at fI is the one of its base -/
structure ErrC (K : PySem.W.Frag) (C fI : Addr) : Prop where
  oex : OexC K C
  xf : XfC K C
  no : PySem.W.findIn K (.ref C) "value" = some none
  cl : (PySem.W.clsIn K C).isSome = true
  hc : PySem.W.findIn K (.ref C) "__class__" = some (some (.builtin "object.__class__"))
  hn : PySem.W.specialIn K (.builtin "object.__class__") "__get__" = some (some (.builtin "getset_descriptor.__get__"))
  ht : PySem.W.takesIn K (.builtin "object.__class__") = some true
  hm : PySem.W.mroIn K C (.type "object") = some true
  iC : PySem.W.findIn K (.ref C) "__init__" = some (some (.ref fI))
  tI : PySem.W.typeIn K (.ref fI) = some (.type "function")
/-- the maker: self.value = value -/
def spErr (K : PySem.W.Frag) : Sp := fun vs H Q _ => ∃ (a C : Addr) (v : V), vs = [.ref a, v] ∧ OexC K C ∧ PySem.W.findIn K (.ref C) "value" = some none ∧ H a = some (exo a C none) ∧ ∀ d, H d = none → d ≠ a → Q .non (upd (upd H d (exd d [(("value" : Str), v)])) a (exo a C (some d)))
section
variable {X : CxT} {K : KT} {e : Expr} {te : TE} {we : We} {p pos : Pos} {x : Str} {C D fI : Addr}
theorem exo_inst {P : Program} {w : World} {H : Hp} {h : Heap} {a C d : Addr} {o od' : HO} {fs : List (Str × V)} (hok : HOk P w H h) (e : H a = some o) (ed : H d = some od') (t1 : ErrO a C d o) (t2 : ErrD d fs od') :
    ∃ (oe od : Obj), PySem.W.InstAt h a oe C (some od) ∧ ∀ n v, fs.lookup n = some v → ∃ u, PySem.W.lookIn n od = some (some u) ∧ RelV v u := by
  have h1 : ∃ (oe : Obj) (vs : Array Value), h.get? a = some oe ∧ Zc (.ref C) (some d) oe ∧ oe.data = .fields vs := by
    cases t1 with
    | made => obtain ⟨t, he⟩ := exo_at hok e; exact ⟨_, _, he, ⟨rfl, rfl⟩, rfl⟩
    | had =>
      have x : ObjOk P w H h a (.ext fun h => ∃ (oe : Obj) (vs : Array Value), h.get? a = some oe ∧ Zc (.ref C) (some d) oe ∧ oe.data = .fields vs) := hok a _ e
      exact x.1
  have h2 : ∃ mA, h.Ns1 d mA ∧ ∀ f, RelO (fs.lookup f) (mA f) := by
    cases t2 with
    | made => exact exd_at hok ed
    | had => exact hok d _ ed
  obtain ⟨oe, vs, hoe, ⟨z1, z2⟩, z3⟩ := h1
  obtain ⟨mA, hns, rel⟩ := h2
  obtain ⟨od, ho, hl⟩ := lookIn_ns hns
  refine ⟨_, od, ⟨hoe, z1, by unfold PySem.W.notCls; rw [z3], by rw [z2]; exact ho⟩, fun n v hv => ?_⟩
  obtain ⟨u, hu, ru⟩ := RelO.some_of (v := v) (o := mA n) (by rw [← hv]; exact rel n)
  exact ⟨u, by rw [hl, hu], ru⟩
/-! isinstance -/
def rIsErr (K : PySem.W.Frag) (fI : Addr) (cv : Value) : V → Hp → VK → Prop := fun x H Q => ∃ (a C d : Addr) (o od : HO) (fs : List (Str × V)) (b : Bool), x = .ref a ∧ H a = some o ∧ H d = some od ∧ ErrO a C d o ∧ ErrD d fs od ∧ ErrC K C fI ∧ PySem.W.kitOne K (.ref C) cv = some b ∧ Q (.bl b) H
theorem call_isErr {X : Cx} {cv : Value} {c : V} (hcv : ∀ u, RelV c u → u = cv) : CallR X (.builtin "isinstance") (fun xs H Q => ∃ x, xs = [x, c] ∧ rIsErr X.K fI cv x H Q) := by
  intro pins s σ H xs us Q I r h
  obtain ⟨x, rfl, a, C, d, o, od, fs, b, rfl, ha, hd, t1, t2, T, e, q⟩ := h
  cases r with
  | cons rx rr =>
    cases rr with
    | cons rt rr =>
      cases rr
      cases rx
      have ec := hcv _ rt
      subst ec
      obtain ⟨oe, od, J, _⟩ := exo_inst I.hok ha hd t1 t2
      exact PySem.W.kia_one (PySem.W.kitx_exc T.cl T.xf.ga T.xf.gg T.xf.exC T.hc T.hn T.ht T.hm) I.kIn J e (fun z => nomatch z) fun tk => ⟨.bl b, H, I.kept (t' := tk) fun _ _ z => z, rfl, q⟩
/-! isinstance, a value's class being an own one -/
def wIsE (cl : Nat → Addr) (n : Nat) (kb : Nat → Bool) (we : We) : We := fun ρ Q => we ρ fun r ρ1 => look r ρ1 fun d => match d with
  | .err C _ => ∃ i, i < n ∧ C = cl i ∧ Q (.dat (.bl (kb i))) ρ1
  | _ => False
def tIsE (K : PySem.W.Frag) (fI : Addr) (cv : Value) (c : V) (te : TE) : TE := tCB (fun xs H Q => ∃ x, xs = [x, c] ∧ rIsErr K fI cv x H Q) (tCons te (tCons (tC c) tNil))
theorem we_isE {cl : Nat → Addr} {n : Nat} {kb : Nat → Bool} {cv : Value} {c : V} (hk : ∀ i, i < n → ErrC K (cl i) fI ∧ PySem.W.kitOne K (.ref (cl i)) cv = some (kb i)) (h : WE K te we) : WE K (tIsE K fI cv c te) (wIsE cl n kb we) := fun B G H σ ρ Q QV R q k =>
  h B G H σ ρ _ _ R q fun v G1 H1 ρ1 r S1 R1 rr q1 => by
    obtain ⟨d, ed, q1⟩ := ok_some q1
    cases d with
    | err C u =>
      obtain ⟨i, hi, rfl, q1⟩ := q1
      obtain ⟨T, e⟩ := hk i hi
      rcases rr.vw R1 ed with hv | ⟨p, ho, o, _, _, h2, h3⟩
      · cases hv with
        | err a1 a2 t1 t2 a3 a4 => exact ⟨_, rfl, _, _, _, _, _, _, _, rfl, R1.gh _ _ a1 t1.nt, R1.gh _ _ a2 t2.nt, t1, t2, T, e, k _ G1 H1 ρ1 _ S1 R1 (.dat (.bl _)) q1⟩
      · cases h2 <;> cases h3
    | _ => exact q1.elim
theorem de_isE {cl : Nat → Addr} {n : Nat} {kb : Nat → Bool} {p2 : Pos} {a : Expr} (hm : X.mg "isinstance" = none) (hm2 : X.mg x = some (.ref D)) (hk : ∀ i, i < n → ErrC X.cx.K (cl i) fI ∧ PySem.W.kitOne X.cx.K (.ref (cl i)) (.ref D) = some (kb i)) (ha : DE X a te we) (hg : Gl X "isinstance" := by rfl) (hg2 : Gl X x := by rfl) (hdb : (x == ("__debug__" : Str)) = false := by decide)
    (hs : starEach (a :: [.Name x p2]) X.env = (false, eval a X.env) :: starEach [.Name x p2] X.env := by rfl) (hpl : (backTo pos (starEach [.Name x p2] X.env)).any (·.1) = false := by rfl) : DE X (.Call (.Name "isinstance" p) [a, .Name x p2] [] pos) (tIsE X.cx.K fI (.ref D) (.ref D) te) (wIsE cl n kb we) :=
  ⟨pe_callB (call_isErr (c := .ref D) (fun u h => h)) hg hm PyProof.Rows.boot_isinstance (pa_cons ha.pe (pa_cons (pe_glob hg2 hm2 rfl hdb) pa_nil) hs) (by decide) (by decide) hs hpl, we_isE hk ha.we⟩
/-! e.value -/
def tVal (K : PySem.W.Frag) (fI : Addr) (te : TE) : TE := fun σ H Q => te σ H fun x H1 => ∃ (a C d : Addr) (o od : HO) (fs : List (Str × V)) (v : V), x = .ref a ∧ H1 a = some o ∧ H1 d = some od ∧ ErrO a C d o ∧ ErrD d fs od ∧ ErrC K C fI ∧ fs.lookup ("value" : Str) = some v ∧ Q v H1
theorem pe_val (he : PE X e te) (hb : attributeBase e "value" X.env (eval e X.env) = eval e X.env := by rfl) : PE X (.Attribute e "value" pos) (tVal X.cx.K fI te) := by
  refine ⟨fun pins s σ H Q I h => ?_⟩
  refine attr_of hb (thn (he.run pins s σ H _ I h) fun u s1 hh => ?_)
  obtain ⟨x, H1, I1, rx, a, C, d, o, od, fs, v, rfl, ea, ed, t1, t2, T, l, q⟩ := hh
  obtain rfl : u = Value.ref a := rx
  obtain ⟨oe, od, J, hl⟩ := exo_inst I1.hok ea ed t1 t2
  obtain ⟨u, hu, ru⟩ := hl _ _ l
  exact HandSPX.exc_get I1.kIn J T.xf.ga T.xf.gg T.xf.exC (PySem.W.findObj_own T.xf.hdC T.no rfl hu) (handed_of ru) ⟨v, H1, I1.tok _, ru, q⟩
def wVal (cl : Nat → Addr) (n : Nat) (we : We) : We := fun ρ Q => we ρ fun r ρ1 => look r ρ1 fun d => match d with
  | .err C u => (∃ i, i < n ∧ C = cl i) ∧ Q (.dat u) ρ1
  | _ => False
theorem we_val {cl : Nat → Addr} {n : Nat} (hk : ∀ i, i < n → ErrC K (cl i) fI) (h : WE K te we) : WE K (tVal K fI te) (wVal cl n we) := fun B G H σ ρ Q QV R q k =>
  h B G H σ ρ _ _ R q fun v G1 H1 ρ1 r S1 R1 rr q1 => by
    obtain ⟨d, ed, q1⟩ := ok_some q1
    cases d with
    | err C u =>
      obtain ⟨⟨i, hi, rfl⟩, q1⟩ := q1
      rcases rr.vw R1 ed with hv | ⟨p, ho, o, _, _, h2, h3⟩
      · cases hv with
        | err a1 a2 t1 t2 a3 a4 => exact ⟨_, _, _, _, _, _, _, rfl, R1.gh _ _ a1 t1.nt, R1.gh _ _ a2 t2.nt, t1, t2, hk i hi, a3, k _ G1 H1 ρ1 _ S1 R1 (.dat a4) q1⟩
      · cases h2 <;> cases h3
    | _ => exact q1.elim
theorem de_val {cl : Nat → Addr} {n : Nat} (hk : ∀ i, i < n → ErrC X.cx.K (cl i) fI) (ha : DE X e te we) (hb : attributeBase e "value" X.env (eval e X.env) = eval e X.env := by rfl) : DE X (.Attribute e "value" pos) (tVal X.cx.K fI te) (wVal cl n we) := ⟨pe_val ha.pe hb, we_val hk ha.we⟩
/-! C(e) -/
def tMkE (C : Addr) (ta : TA) : TE := fun σ H Q => ta σ H fun vs H1 => ∃ v, vs = [v] ∧ ∀ a d, H1 a = none → H1 d = none → d ≠ a → Q (.ref a) (upd (upd H1 d (exd d [(("value" : Str), v)])) a (exo a C (some d)))
/-- a new thing that does not change -/
theorem rep_add {B : Addr → Prop} {G H : Hp} {σ : L2.St} {ρ : Sl} (R : Rep K B G H σ ρ) {p : Addr} (hp : H p = none) {o : HO} (nt : Nt o) : Stp B G H (upd G p o) (upd H p o) ∧ Rep K B (upd G p o) (upd H p o) σ ρ := by
  have gp : G p = none := R.gh.free R.tb hp
  have nb : ¬ B p := fun z => (R.bh p z).no hp
  have e : Ex G (upd G p o) := Ex.new gp
  have S : Stp B G H (upd G p o) (upd H p o) := ⟨e, fun a ps h => by rw [upd_ne (ne_of_none h gp)]; exact h, fun a ps h => mark_old nt h, fun a u hb h _ => by rw [upd_ne (nb_ne nb hb)]; exact h, fun a _ hb _ _ => upd_ne (nb_ne nb hb)⟩
  refine ⟨S, R.gh.both gp, (R.tb.new hp).mark nt, R.z.step S, fun a hb => ?_, R.len, fun i d hi => ?_, fun i u hi => ?_, R.sep⟩
  · exact (R.bh a hb).upd (nb_ne nb hb)
  · obtain ⟨v, h1, h2⟩ := R.dat i d hi
    exact ⟨v, h1, h2.mono e⟩
  · obtain ⟨q, hq, h1, h2, h3, h4, h5⟩ := R.own i u hi
    have z := ne_of_none h2 hp
    exact ⟨q, hq, h1, by rw [upd_ne z]; exact h2, by rw [upd_ne z]; exact h3, h4, h5.mono e⟩
def wMk (C : Addr) (wa : Wa) : We := fun ρ Q => wa ρ fun rs ρ1 => frz rs ρ1 fun ds ρ2 => match ds with
  | [d] => Q (.dat (.err C d)) ρ2
  | _ => False
/-- an error class that can be called by its name -/
structure Erc (P : Program) (w : World) (K : PySem.W.Frag) (mg : Str → Option Value) (base : Heap) (k : Nat) (x : Str) (C fI : Addr) : Prop where
  ex : ∃ fd, mg x = some (.ref C) ∧ ErrC K C fI ∧ FnOk P w K mg base L2.CX0 k fI fd ["self", "value"] (spErr K) ∧ Binds K fd ["self", "value"] []
end
end DL

set_option Elab.async false
set_option linter.all false
set_option maxRecDepth 100000
set_option maxHeartbeats 2000000
namespace DL
open PySem L2
section
variable {X : CxT} {K : KT} {e : Expr} {es : List Expr} {te : TE} {t : TA} {we : We} {wa : Wa} {p pos apos cpos : Pos} {x : Str}
/-! ### a call to which a new thing of one's own is handed -/
def wCallO (F : Fd) (Ξ : Xp) (we : We) : We := fun ρ Q => we ρ fun r ρ1 => match r with
  | .own o => F [.own o] (fun r' _ => Q r' ρ1) Ξ
  | _ => False
theorem we_callO {F : Fd} {Ξ : Xp} {W : WX} (lk : Lk K.F K.B0 K.G0 K.H0 Ξ W) (he : WE K te we) : WE K (tCallG K.F K.T 1 F W (tCons te tNil)) (wCallO F Ξ we) := fun B G H σ ρ Q QV R q k =>
  he B G H σ ρ _ _ R q fun v G1 H1 ρ1 r S1 R1 rr q1 => by
    cases rr with
    | dat z => exact q1.elim
    | bor z => exact q1.elim
    | own h1 h2 h3 h4 h5 =>
      rename_i pa ho o
      have BB : ∀ a, B a → Tr H1 a ∧ a ≠ pa := fun a hb => ⟨R1.bh a hb, fun z => h3 (z ▸ hb)⟩
      have R' : Rep (K.at (fun a => Tr H1 a ∧ a ≠ pa) G1 H1) (fun a => Tr H1 a ∧ a ≠ pa) G1 H1 ([V.ref pa].map some) [.own o] := by
        refine ⟨R1.gh, R1.tb, R1.z.new, fun a h => h.1, rfl, fun i d h => ?_, fun i u h => ?_, fun i j u u' q a b c d => ?_⟩
        · match i, h with
          | 0, h => cases h
        · match i, h with
          | 0, h => cases h; exact ⟨pa, ho, rfl, h1, h2, fun z => z.2 rfl, h4⟩
        · match i, j, a, b with
          | 0, 0, _, _ => rfl
      refine ⟨_, G1, [.own o], fun r as => Q r ρ1, Ξ, rfl, R', q1, fun v' G' H' as' r' S' RA rv hf q2 => ?_, lk_call R1.z BB lk⟩
      have slot : ∀ (i : Nat) (u : OD), ρ1[i]? = some (SD.own u) → ∃ q hq, σ[i]? = some (some (V.ref q)) ∧ H1 q = some hq ∧ (Tr H1 q ∧ q ≠ pa) ∧ G1 q = none ∧ ¬ B q ∧ RO K G1 hq u := fun i u hi => by
        obtain ⟨q, hq, w1, w2, w3, w4, w5⟩ := R1.own i u hi
        exact ⟨q, hq, w1, w2, ⟨⟨_, w2, w5.nt⟩, fun z => h5 i u hi (by rw [w1, z])⟩, w3, w4, w5⟩
      have Rb : Rep K B G' H' σ ρ1 := by
        refine ⟨RA.gh, RA.tb, R1.z.step (S'.weak BB), fun a hb => RA.bh a (BB a hb), R1.len, fun i d hi => ?_, fun i u hi => ?_, R1.sep⟩
        · obtain ⟨w, w1, w2⟩ := R1.dat i d hi
          exact ⟨w, w1, w2.mono S'.g⟩
        · obtain ⟨q, hq, w1, w2, hB, w3, w4, w5⟩ := slot i u hi
          exact ⟨q, hq, w1, S'.h q hq hB w2 w5.nt, (S'.n q hq hB w2 w5.ow).trans w3, w4, w5.mono S'.g⟩
      refine k v' G' H' ρ1 r' (S1.trans (S'.weak BB)) Rb ?_ q2
      cases rv with
      | dat z => exact .dat z
      | bor z => cases hf
      | own g1 g2 g3 g4 g5 =>
        refine .own g1 g2 (fun hb => g3 (BB _ hb)) g4 fun i u hi hz => ?_
        obtain ⟨q, hq, w1, w2, hB, w3, w4, w5⟩ := slot i u hi
        rw [hz] at w1; cases w1
        exact g3 hB
/-- .. that raises nothing -/
theorem de_calO {KF : PySem.W.Frag} {Ts : List (Addr × Str)} {k : Nat} {s1 : Str} {F : Fd} (C : Cal X.prog X.w KF Ts X.mg X.base k x [s1] F) (hr : Room k X.A) (hgd : X.A.guards = some []) (ha : DE X e te we) (hK : X.cx.K = KF := by rfl) (hT : X.T = Ts := by rfl) (hg : Gl X x := by rfl) (hdb : (x == ("__debug__" : Str)) = false := by decide) (he : starEach (e :: []) X.env = (false, eval e X.env) :: starEach [] X.env := by rfl) (hpl : (backTo pos (starEach [] X.env)).any (·.1) = false := by rfl) :
    DE X (.Call (.Name x p) [e] [] pos) (tCallG KF Ts 1 F (fun _ _ _ _ => False) (tCons te tNil)) (wCallO F noX we) := by
  subst hK hT
  obtain ⟨f, fd, hm, hk, hb, F0⟩ := C.ex
  refine ⟨⟨fun pins s σ H Q I h => ?_⟩, we_callO (K := X.K) lk_no ha.we⟩
  refine wpAny_Call_Name_kw (ld_glob I hg hm ?_ hdb)
  refine PySem.W.callWith_K (h₀ := X.base) I.ok.mod.kin hk (thn ((pa_cons ha.pe pa_nil he).run pos pins s σ H _ I h) fun us s1 ⟨vs, H1, I1, r, q⟩ => ⟨I1.kIn, ?_⟩) he hpl
  obtain ⟨B, G, as, Q', Ξ, hl, R, hF, hk, hx⟩ := q
  have hb' := hb s1 us I1.kIn (by rw [List.append_nil, ← r.length]; exact hl)
  rw [List.append_nil] at hb'
  refine wpAny_call (codeAny_mono (F0.run X.A X.stack s1 H1 ⟨us, []⟩ us vs B G as Q' Ξ Q (fun _ _ _ => False) hr hgd I1.env0 hb' r hl R hF hk hx) fun r s' hq => ?_)
  match r, hq with
  | .ok (.ret u), hq => exact I1.after hq
  | .ok .next, hq => exact False.elim hq
  | .ok .brk, hq => exact False.elim hq
  | .ok .cont, hq => exact False.elim hq
  | .error e, ⟨_, _, _, _, _, _, _, _, _, _, _, _, z⟩ => exact False.elim z
/-! ### methods of lists that give a number -/
abbrev Dm := PD → List PD → (Rz → Prop) → Prop
def OkM (K : KT) (r : V → List V → Hp → VK → Prop) (D : Dm) : Prop := ∀ (B : Addr → Prop) (G H : Hp) (σ : L2.St) (ρ : Sl) (x : V) (dx : PD) (xs : List V) (ds : List PD) (Q : Rz → Prop) (QV : VK),
  Rep K B G H σ ρ → Vw K G H x dx → VwAll K G H xs ds → D dx ds Q → Gv K B G H σ ρ Q QV → r x xs H QV
def wM (D : Dm) (we : We) (wa : Wa) : We := fun ρ Q => we ρ fun r ρ1 => ok (r.pd ρ1) fun d => (∃ xs, d = .lst xs) ∧ wa ρ1 fun rs ρ2 => look r ρ2 fun d' => looks rs ρ2 fun ds => D d' ds fun r' => Q r' ρ2
def dIndex : Dm := fun d ds k => match d, ds with
  | .lst ys, [y] => y.flat = true ∧ ys.all PD.flat = true ∧ ok (ys.findIdx? fun z => PyData.eqv z.py y.py) fun j => k (.dat (.int (j : Nat)))
  | _, _ => False
/-- count, of bools -/
def rCountB : V → List V → Hp → VK → Prop := fun x xs H Q => ∃ (a : Addr) (bs : List Bool) (b : Bool), x = .ref a ∧ xs = [.bl b] ∧ H a = some (.lst (bs.map V.bl)) ∧ Q (.int (PySem.Spec.countIn (.bool b) (bs.map PyData.bool))) H
def boolsOf : List PD → Option (List Bool)
  | [] => some []
  | .bl b :: r => (boolsOf r).map (b :: ·)
  | _ :: _ => none
def dCountB : Dm := fun d ds k => match d, ds with
  | .lst ys, [.bl b] => ok (boolsOf ys) fun bs => k (.dat (.int (PySem.Spec.countIn (.bool b) (bs.map PyData.bool))))
  | _, _ => False
section
variable (hfew : Prop)
end
/-! ### dicts: none, and of one pair -/
def wDnew : We := fun ρ Q => Q (.own (.dK [])) ρ
def wD1 (k : Str) (i : Int) : We := fun ρ Q => Q (.own (.dK [(Sum.inr k, .int i)])) ρ
def small1 (ks : List (Key × PD)) : Prop := ks = [] ∨ ∃ k i, ks = [(k, .int i)]
theorem Vw.dct1 {G H : Hp} {v : V} {ks : List (Key × PD)} (e : Ex G H) (h : Vw K G H v (.dct ks)) (s : small1 ks) : (ks = [] ∧ ∃ a, v = .ref a ∧ H a = some (.dK [])) ∨ ∃ k i, ks = [(k, .int i)] ∧ ∃ a, v = .ref a ∧ H a = some (.dK [(k, .int i)]) := by
  have go : ∃ a vs, v = .ref a ∧ H a = some (.dK vs) ∧ RpKv K G vs ks := by
    rcases h with h | ⟨q, ho, o, rfl, h1, h2, h3⟩
    · cases h with
      | dct hq r => exact ⟨_, _, rfl, e _ _ hq nt_dK, r⟩
    · cases h2 with
      | lst => cases h3
      | dK r => cases h3; exact ⟨_, _, rfl, h1, r⟩
      | dT _ _ => cases h3
  obtain ⟨a, vs, rfl, ha, r⟩ := go
  rcases s with rfl | ⟨k, i, rfl⟩
  · cases r; exact .inl ⟨rfl, a, rfl, ha⟩
  · cases r with
    | cons r1 r2 => cases r2; cases r1; exact .inr ⟨k, i, rfl, a, rfl, ha⟩
def dNeX : D2 := fun x y k => match x, y with
  | .dct ks, .dct ls => small1 ks ∧ ls = ks ∧ k (.dat (.bl false))
  | x, y => dNe x y k
theorem ok2_neX : Ok2 K (rOr rNeDA (rNeD K)) dNeX := by
  intro B G H σ ρ x y dx dy Q QV R vx vy q k
  by_cases hd : ∃ ks ls, dx = .dct ks ∧ dy = .dct ls
  · obtain ⟨ks, ls, rfl, rfl⟩ := hd
    obtain ⟨sm, rfl, q⟩ := q
    left
    rcases vx.dct1 R.gh sm with ⟨rfl, a, rfl, ha⟩ | ⟨c, i, rfl, a, rfl, ha⟩
    · rcases vy.dct1 R.gh sm with ⟨_, b, rfl, hb⟩ | ⟨_, _, z, _⟩
      · exact ⟨a, b, [], [], rfl, rfl, ha, hb, rfl, (fun p hp => nomatch hp), k.dat R (.bl _) q⟩
      · cases z
    · rcases vy.dct1 R.gh sm with ⟨z, _⟩ | ⟨c', i', z, b, rfl, hb⟩
      · cases z
      · cases z
        exact ⟨a, b, _, _, rfl, rfl, ha, hb, rfl, (fun p hp => by
          have : p = (c, V.int i) := by simpa using hp
          subst this
          exact ⟨by simp [valV], rfl⟩), k.dat R (.bl _) q⟩
  · right
    refine ok2_ne B G H σ ρ x y dx dy Q QV R vx vy ?_ k
    unfold dNeX at q
    split at q
    · exact absurd ⟨_, _, rfl, rfl⟩ hd
    · exact q
theorem dc_neX (hu : X.cx.A.units + 64 < cLine) : DC X .NotEq (rOr rNeDA (rNeD X.K)) dNeX := ⟨or_ok (op_ne_dictA (by omega)) (op_neD hu), ok2_neX⟩
/-! ### repr, of such dicts too -/
def d1py : List (Key × PD) → PyData
  | [(.inr k, .int i)] => .dict [(.str k, .int i)]
  | _ => .dict []
def rReprD1 : List V → Hp → VK → Prop := fun xs H Q => ∃ (a : Addr) (vs : List (Key × V)) (d : PyData), xs = [.ref a] ∧ H a = some (.dK vs) ∧ ((vs = [] ∧ d = .dict []) ∨ ∃ k i, vs = [(Sum.inr k, .int i)] ∧ d = .dict [(.str k, .int i)]) ∧ d.showable = true ∧ d.depth ≤ 64 ∧ d.shown.length ≤ sizeLine ∧ Q (.str d.shown) H
theorem call_reprD1 (hg : X.A.guards = some []) (hu : X.cx.A.units + 66 < cLine) : CallR X (.builtin "repr") rReprD1 := by
  intro pins s σ H xs us Q I r h
  obtain ⟨a, vs, d, rfl, ha, hv, s1, s2, s3, q⟩ := h
  rw [Vals.ref1 r]
  obtain ⟨hz, hsys, ws, kv, o, es, ep, ho, hex, hdat, hks, hpr, hnd⟩ := dk_of I.hok ha
  have rd : ∃ as, Reads s.heap (.ref a) d as ∧ sysModules ∉ as := by
    rcases hv with ⟨rfl, rfl⟩ | ⟨k, i, rfl, rfl⟩
    · cases kv
      generalize hes : es.toList = el at hpr
      cases hpr
      exact ⟨_, .dict (kvs := []) ho hex.1 hdat (by rw [hes]; exact .nil) (by rw [hes]; exact .nil), by
        have : (a == sysModules) = false := hsys
        simp at this
        simp
        exact fun z => this z.symm⟩
    · cases kv with
      | cons k1 k2 =>
        cases k2
        generalize hes : es.toList = el at hpr
        cases hpr with
        | cons p1 p2 p3 =>
          cases p3
          rename_i q0 e0
          obtain ⟨k1a, k1b⟩ := k1
          obtain ⟨tv, etv⟩ : ∃ t, q0.2 = Value.int i t := k1b
          rcases keyIs_shape p1 with ⟨i', t', z, _⟩ | ⟨x', t', z, ek⟩
          · rw [← k1a] at z; cases z
          · rw [← k1a] at z; cases z
            refine ⟨_, .dict (kvs := [(.str k, .int i)]) ho hex.1 hdat (as := [] ++ []) (bs := [] ++ []) (by rw [hes]; show ReadsAll _ [e0.key] [.str k] _; rw [ek]; exact .cons (.str k t') .nil) (by rw [hes]; show ReadsAll _ [e0.val] [.int i] _; rw [p2, etv]; exact .cons (.int i tv) .nil), ?_⟩
            have : (a == sysModules) = false := hsys
            simp at this
            simp
            exact fun z => this z.symm
  obtain ⟨as, rd, hsm⟩ := rd
  exact repr_of_reads' rd s1 (fun _ => hsm) hg (by omega) (fun _ _ z => z) (fun h' tu tk kk => ⟨.str _, H, I.kept kk, ⟨_, rfl⟩, q⟩) s3
def dReprX : Dn := fun ds k => match ds with
  | [.dct ks] => (ks = [] ∨ ∃ c i, ks = [(Sum.inr c, .int i)]) ∧ (d1py ks).showable = true ∧ (d1py ks).depth ≤ 64 ∧ (d1py ks).shown.length ≤ sizeLine ∧ k (.dat (.str (d1py ks).shown))
  | ds => dRepr ds k
theorem db_reprX (hg : X.A.guards = some []) (hu : X.cx.A.units + 66 < cLine) : DB X (.builtin "repr") (fun xs H Q => rReprD1 xs H Q ∨ rRepr X.K xs H Q) dReprX := by
  refine ⟨CallR.orr (call_reprD1 hg hu) (call_repr hg hu), fun B G H σ ρ xs ds Q QV R hv q k => ?_⟩
  by_cases hd : ∃ ks, ds = [.dct ks]
  · obtain ⟨ks, rfl⟩ := hd
    obtain ⟨sm, s1, s2, s3, q⟩ := q
    cases hv with
    | cons v r =>
      cases r
      left
      rcases sm with rfl | ⟨c, i, rfl⟩
      · rcases v.dct1 R.gh (.inl rfl) with ⟨_, a, rfl, ha⟩ | ⟨_, _, z, _⟩
        · exact ⟨a, _, _, rfl, ha, .inl ⟨rfl, rfl⟩, s1, s2, s3, k.dat R (.str _) q⟩
        · cases z
      · rcases v.dct1 R.gh (.inr ⟨_, _, rfl⟩) with ⟨z, _⟩ | ⟨_, _, z, a, rfl, ha⟩
        · cases z
        · cases z
          exact ⟨a, _, _, rfl, ha, .inr ⟨_, _, rfl, rfl⟩, s1, s2, s3, k.dat R (.str _) q⟩
  · right
    refine (db_repr hg hu).ok B G H σ ρ xs ds Q QV R hv ?_ k
    unfold dReprX at q
    split at q
    · exact absurd ⟨_, rfl⟩ hd
    · exact q
end
end DL

set_option Elab.async false
set_option linter.all false
set_option maxRecDepth 100000
set_option maxHeartbeats 2000000
namespace DL
open PySem L2
/-! ### what the written part says of the errors, as one answer -/
def errCls (K : PySem.W.Frag) (C : Addr) : Bool := match K.lookup C with
  | some ⟨.type "type", _, .cls cd, sl⟩ => (match cd.mro, sl.toList with
    | .ref C' :: bm, [_, _, _, _, some (.builtin n), _] => C' == C && (n == "ValueError.__new__" && (!cd.hasDel && (cd.hasDict && PySem.HandSPX.refsVE bm)))
    | _, _ => false)
  | _ => false
theorem errCls_ok {K : PySem.W.Frag} {C : Addr} (q : errCls K C = true) : ∃ nm q N bs bm sn sub ab col dd k0 k1 k2 k3 k5, K.lookup C = some (excClassObj nm q C N bs bm true sn sub ab col dd k0 k1 k2 k3 k5 "ValueError.__new__") ∧ PySem.HandSPX.refsVE bm = true := by
  unfold errCls at q
  split at q
  · rename_i dd cd sl ho
    split at q
    · rename_i C' bm k0 k1 k2 k3 n k5 hm hs
      simp only [Bool.and_eq_true, beq_iff_eq, Bool.not_eq_true'] at q
      obtain ⟨rfl, rfl, hdel, hdict, hbm⟩ := q
      obtain ⟨nm, bs, mro, ns, qn, hd, sn, sub, ab, col, del⟩ := cd
      dsimp only at hm hdel hdict
      subst hm hdel hdict
      have hsl : sl = #[k0, k1, k2, k3, some (.builtin "ValueError.__new__"), k5] := by
        obtain ⟨l⟩ := sl
        simp only at hs
        rw [hs]
      subst hsl
      exact ⟨nm, qn, ns, bs, bm, sn, sub, ab, col, dd, k0, k1, k2, k3, k5, ho, hbm⟩
    · cases q
  · cases q
def errB (K : PySem.W.Frag) (fI C : Addr) : Bool := errCls K C && (decide (PySem.W.findIn K (.ref C) "__setattr__" = some (some (.builtin "object.__setattr__"))) && (decide (PySem.W.typeIn K (.ref C) = some (.type "type")) && (PySem.W.keepIn K (.ref C) && (xfB K C &&
  (decide (PySem.W.findIn K (.ref C) "value" = some none) && ((PySem.W.clsIn K C).isSome && (decide (PySem.W.findIn K (.ref C) "__class__" = some (some (.builtin "object.__class__"))) && (decide (PySem.W.mroIn K C (.type "object") = some true) && decide (PySem.W.findIn K (.ref C) "__init__" = some (some (.ref fI)))))))))))
def errG (K : PySem.W.Frag) (fI : Addr) : Bool := decide (PySem.W.specialIn K (.builtin "object.__class__") "__get__" = some (some (.builtin "getset_descriptor.__get__"))) && (decide (PySem.W.takesIn K (.builtin "object.__class__") = some true) && decide (PySem.W.typeIn K (.ref fI) = some (.type "function")))
theorem errB_ok {K : PySem.W.Frag} {fI C : Addr} (h : errB K fI C = true) (g : errG K fI = true) : ErrC K C fI := by
  obtain ⟨h1, h⟩ := Bool.and_eq_true_iff.mp h
  obtain ⟨h2, h⟩ := Bool.and_eq_true_iff.mp h
  obtain ⟨h3, h⟩ := Bool.and_eq_true_iff.mp h
  obtain ⟨h4, h⟩ := Bool.and_eq_true_iff.mp h
  obtain ⟨h5, h⟩ := Bool.and_eq_true_iff.mp h
  obtain ⟨h6, h⟩ := Bool.and_eq_true_iff.mp h
  obtain ⟨h7, h⟩ := Bool.and_eq_true_iff.mp h
  obtain ⟨h8, h⟩ := Bool.and_eq_true_iff.mp h
  obtain ⟨h9, h10⟩ := Bool.and_eq_true_iff.mp h
  obtain ⟨g1, g⟩ := Bool.and_eq_true_iff.mp g
  obtain ⟨g2, g3⟩ := Bool.and_eq_true_iff.mp g
  have x := xfB_ok h5
  exact { oex := ⟨errCls_ok h1, of_decide_eq_true h2, x.exC, of_decide_eq_true h3, h4⟩, xf := x, no := of_decide_eq_true h6, cl := h7, hc := of_decide_eq_true h8, hn := of_decide_eq_true g1, ht := of_decide_eq_true g2, hm := of_decide_eq_true h9, iC := of_decide_eq_true h10, tI := of_decide_eq_true g3 }
/-- all classes Cs, the last one being the base of the others -/
def errsB (K : PySem.W.Frag) (Cs : List Addr) (fI : Addr) (kb : Nat → Nat → Bool) : Bool := errG K fI && (Cs.all (errB K fI) && ((List.range Cs.length).all fun i => decide (PySem.W.kitOne K (.ref (Cs.getD i 0)) (.type "ValueError") = some true) && (List.range Cs.length).all fun j => decide (PySem.W.kitOne K (.ref (Cs.getD i 0)) (.ref (Cs.getD j 0)) = some (kb j i))))
theorem errsB_ok {K : PySem.W.Frag} {Cs : List Addr} {fI : Addr} {kb : Nat → Nat → Bool} (h : errsB K Cs fI kb = true) :
    (∀ i, i < Cs.length → ErrC K (Cs.getD i 0) fI) ∧ (∀ j, j < Cs.length → ∀ i, i < Cs.length → PySem.W.kitOne K (.ref (Cs.getD i 0)) (.ref (Cs.getD j 0)) = some (kb j i)) ∧ ∀ i, i < Cs.length → PySem.W.kitOne K (.ref (Cs.getD i 0)) (.type "ValueError") = some true := by
  obtain ⟨h0, h⟩ := Bool.and_eq_true_iff.mp h
  obtain ⟨h1, h2⟩ := Bool.and_eq_true_iff.mp h
  have a : ∀ i, i < Cs.length → _ := fun i hi => Bool.and_eq_true_iff.mp (List.all_eq_true.mp h2 i (List.mem_range.mpr hi))
  refine ⟨fun i hi => errB_ok (List.all_eq_true.mp h1 _ ?_) h0, fun j hj i hi => of_decide_eq_true (List.all_eq_true.mp (a i hi).2 j (List.mem_range.mpr hj)), fun i hi => of_decide_eq_true (a i hi).1⟩
  rw [List.getD_eq_getElem?_getD, List.getElem?_eq_getElem hi]
  exact List.getElem_mem hi
end DL

set_option Elab.async false
set_option linter.all false
set_option maxRecDepth 100000
set_option maxHeartbeats 2000000
namespace DL
open PySem L2
section
variable {X : CxT} {K : KT} {T : Nat → Bool} {e : Expr} {te tt' : TE} {t : TA} {we : We} {wa : Wa} {pos p p2 pos' tpos : Pos} {x : Str}
/-! ### x = [comprehension] -/
theorem ds_setLcF {elt tg iter : Expr} {i : Nat} {y : Str} {py spos : Pos} {scope : Scope} {own : List (Str × Nat)} {ifs : List Expr} {wi : TI} {wI : Wi} {g : TG} {wg : Wg} {tt : TT} {wt : Wt} (hT : T i = false) (hc : X.calm = true) (hN : X.N.Nodup) (hy : X.N[i]? = some y) (hyl : X.env.scope.names.lookup y = some .local)
    (hsw : swapsWith (.ListComp elt [⟨tg, iter, ifs, 0⟩] scope pos) (some (.Name y py)) spos.line X.env = pure true) (hv : (own.map (·.2)).Nodup) (hi : DI X tg iter wi wI) (okb : BlkOk X.N X.env.scope scope own)
    (hg : ∀ (s : Shared) (H : Hp) (C : Addr) (cl : List (Str × Addr)) (fp : List Addr), DG (X.blk s H scope (compEnvC scope cl C X.env) fp) T0 tg g wg) (ho : GOnly (own.map (·.2)) g)
    (ht : ∀ (s : Shared) (H : Hp) (C : Addr) (cl : List (Str × Addr)) (fp : List Addr), PTs (X.blk s H scope (compEnvC scope cl C X.env) fp) ifs tt) (hw : WTt X.K tt wt)
    (he : ∀ (s : Shared) (H : Hp) (C : Addr) (cl : List (Str × Addr)) (fp : List Addr), DE (X.blk s H scope (compEnvC scope cl C X.env) fp) elt te we) (hs : ∀ x, foldedSetIterable iter X.env x = pure x := by intro _; rfl) :
    DS X T (.Assign [.Name y py] (.ListComp elt [⟨tg, iter, ifs, 0⟩] scope pos) spos) (tAsg (tLc wi g tt te (own.map (·.2))) (gName i)) (wSetF i (wLc (own.map (·.2)) wI wg wt we)) :=
  ⟨ps_setLc hc hN hy hyl hsw hi.pi okb (fun s H C cl fp => (hg s H C cl fp).pg) ht (fun s H C cl fp => (he s H C cl fp).pe) hs, ws_setF hT (we_lc hv hi.wi (hg X.s_0 X.H_0 0 [] []).wg ho hw (he X.s_0 X.H_0 0 [] []).we)⟩
/-! ### max, min of a list of ints -/
def dMaxL : Dn := fun ds k => match ds with
  | [.lst xs] => ok (intsOf xs) fun ns => 0 < ns.length ∧ ∀ m, m ∈ ns → (∀ y, y ∈ ns → y ≤ m) → k (.dat (.int m))
  | _ => False
def dMinL : Dn := fun ds k => match ds with
  | [.lst xs] => ok (intsOf xs) fun ns => 0 < ns.length ∧ ∀ m, m ∈ ns → (∀ y, y ∈ ns → m ≤ y) → k (.dat (.int m))
  | _ => False
theorem db_maxL (hc : X.calm = true) : DB X (.builtin "max") (rMax X.K) dMaxL := by
  refine ⟨cr_max hc, fun B G H σ ρ xs ds Q QV R hv q k => ?_⟩
  match ds, hv, q with
  | [.lst ys], .cons h .nil, q =>
    obtain ⟨ns, e, h0, q⟩ := ok_some q
    obtain ⟨a, us, rfl, ha, ra⟩ := h.lst R.gh
    rw [intsOf_eq e] at ra
    rw [ra.ints] at ha
    exact ⟨a, ns, rfl, SqL.of ha, h0, fun m h1 h2 => k.dat R (.int m) (q m h1 h2)⟩
/-! ### dicts of one's own, by ints and texts -/
def PD.key : PD → Option Key
  | .int i => some (.inl i)
  | .str x => some (.inr x)
  | _ => none
def ownD (i : Nat) (ρ : Sl) (k : List (Key × PD) → Prop) : Prop := match ρ[i]? with
  | some (.own (.dK kvs)) => k kvs
  | _ => False
theorem Rep.dK {B : Addr → Prop} {G H : Hp} {σ : L2.St} {ρ : Sl} {i : Nat} {xs : List (Key × PD)} (R : Rep K B G H σ ρ) (hi : ρ[i]? = some (SD.own (.dK xs))) : ∃ p vs, σ[i]? = some (some (V.ref p)) ∧ H p = some (.dK vs) ∧ RpKv K G vs xs := by
  obtain ⟨p, ho, h1, h2, h3, h4, h5⟩ := R.own i _ hi
  cases h5 with
  | dK r => exact ⟨p, _, h1, h2, r⟩
def getP (kds : List (Key × PD)) (k : Key) : Option PD := (kds.find? fun kv => decide (kv.1 = k)).map (·.2)
def putP (kds : List (Key × PD)) (k : Key) (d : PD) : List (Key × PD) := if (kds.any fun kv => decide (kv.1 = k)) = true then kds.map (fun kv => if kv.1 = k then (kv.1, d) else kv) else kds ++ [(k, d)]
theorem vw_key {G H : Hp} {v : V} {d : PD} {k : Key} (h : Vw K G H v d) (e : d.key = some k) : v = kV k := by
  cases d with
  | int i => cases e; exact h.int
  | str z => cases e; exact h.str
  | _ => cases e
/-- k in d, k not in d; d the slot j -/
def wDIn (neg : Bool) (wk : We) (j : Nat) : We := fun ρ Q => wk ρ fun r ρ1 => look r ρ1 fun d => ok d.key fun k => ownD j ρ1 fun kvs => Q (.dat (.bl (if neg then !(getP kvs k).isSome else (getP kvs k).isSome))) ρ1
/-- d[k]; d the slot j -/
def wDGet (j : Nat) (wk : We) : We := fun ρ Q => ownD j ρ fun _ => wk ρ fun r ρ1 => look r ρ1 fun d => ok d.key fun k => ownD j ρ1 fun kvs => ok (getP kvs k) fun v => Q (.dat v) ρ1
/-- d[k] = e; d the slot j -/
def wDPut (j : Nat) (wk wv : We) : Ws := fun O ρ => wv ρ fun r ρ1 => warm r ρ1 ∧ frz [r.cool] ρ1 fun ds ρ2 => ownD j ρ2 fun _ => wk ρ2 fun rk ρ3 => look rk ρ3 fun dk => ok dk.key fun k => ownD j ρ3 fun kvs => match ds with
  | [d] => kvs.length < sizeLine ∧ O.nx (ρ3.set j (.own (.dK (putP kvs k d))))
  | _ => False
theorem RpKv.length {G : Hp} : ∀ {vs : List (Key × V)} {ds : List (Key × PD)}, RpKv K G vs ds → vs.length = ds.length
  | _, _, .nil => rfl
  | _, _, .cons _ r => congrArg (· + 1) (RpKv.length r)
variable {e2 : Expr} {x1 : Str} {t2 : TE} {wk : We} {j : Nat}
end
end DL

set_option Elab.async false
set_option linter.all false
set_option maxRecDepth 100000
set_option maxHeartbeats 2000000
namespace DL
open PySem L2 RZ
section
variable {X : CxT} {K : KT} {e e2 : Expr} {p pos : Pos}
/-! ### zip of two lists -/
def wZip (wa : Wa) : Wi := fun ρ Q => wa ρ fun rs ρ1 => frz rs ρ1 fun ds ρ2 => match ds with
  | [.lst xs, .lst ys] => Q (zipP xs ys) ρ2
  | _ => False
/-! ### x = [comprehension with a test] -/
/-! ### a, b, .. = x, y, .. through a tuple (names of cells, four names and more) -/
def gsNames : List Nat → TGs
  | [] => gNil
  | i :: is => gCons (gName i) (gsNames is)
theorem RRh.aside {G H : Hp} {σ : L2.St} {ρ : Sl} {p : Addr} {o : HO} (hp : H p = none) : ∀ {vs : List V} {rs : List Rz} {B : Addr → Prop}, RRh K G H σ ρ B vs rs → RRh K G (upd H p o) σ ρ B vs rs
  | _, _, _, .nil => .nil
  | _, _, _, .cons h t => by
    refine .cons ?_ (RRh.aside hp t)
    cases h with
    | dat q => exact .dat q
    | bor q => exact .bor q
    | own h1 h2 h3 h4 h5 => exact .own (by rw [upd_ne (ne_of_none h1 hp)]; exact h1) h2 h3 h4 h5
/-! ### the same with the written part by its own name (in a comprehension the context is not known yet when the reading is) -/
variable {a b : Expr} {ta tb : TE} {wa wb : We}
theorem de_addK {KF : PySem.W.Frag} (ha : DE X a ta wa) (hb : DE X b tb wb) (hK : X.cx.K = KF := by rfl) : DE X (.BinOp a .Add b pos) (tOp (rAdd4 KF) ta tb) (wBin dAdd wa wb) := by
  subst hK; exact de_add ha hb
theorem de_ixK {KF : PySem.W.Frag} (ha : DE X a ta wa) (hb : DE X b tb wb) (hK : X.cx.K = KF := by rfl) (hs : PlainIx b := by intro _ _; rfl) : DE X (.Subscript a b pos) (tOp (rIx KF) ta tb) (wBin dIx wa wb) := by
  subst hK; exact de_ix ha hb hs
theorem dc_notInK {KF : PySem.W.Frag} (hK : X.cx.K = KF := by rfl) : DC X .NotIn (rIn KF true) (dIn true) := by
  subst hK; exact dc_notIn
end
end DL

set_option Elab.async false
set_option linter.all false
set_option maxRecDepth 100000
set_option maxHeartbeats 2000000
namespace DL
open PySem L2 PySem.Spec PyProof.Rows
/-! ### enumerate of a tuple -/
/-- an iterator of a tuple that is at its end -/
theorem draws_end {prog : Program} {w : World} {A : Around} (hh : A.handled = none) (it t : Addr) (items : Array Value) (i : Nat) (hi : items[i]? = none) (hne : t ≠ it) :
    Draws prog w A it [it, t] i (fun _ _ => True) (fun j h => j = i ∧ h.IsTupleIter it t i ∧ h.IsTuple t items) where
  live := fun _ _ st => let ⟨o, ho, _⟩ := st.2.1; ⟨o, ho⟩
  frame := fun _ _ _ st hk => ⟨st.1, st.2.1.at fun o e => hk it (by simp) o e, st.2.2.at fun o e => hk t (by simp) o e⟩
  item := fun j s Q E hj st hQ => absurd st.1 (by omega)
  done := fun s Q E st hE => wpAny_nextOf_tuple_end hh st.2.1 st.2.2 hi hE
/-- the object that enumerate makes of what begins as o -/
def enO (a : Addr) : Obj := { cls := .type "enumerate", data := .fields #[.none, .bool false, .ref a, rawInt 0, .none, .none] }
theorem meets_en {v : Value} {o : Obj} {H : Heap → Prop} (B : Begins v o H) : Meets (Builtin.«enumerate.__new__» ⟨[.type "enumerate", v], []⟩) (fun _ R s => H s.heap ∧ R (.ok (.ret (.ref (s.heap.push o).objs.size))) { s with heap := (s.heap.push o).push (enO s.heap.objs.size) }) :=
  .of_wp fun prog w A R s hs => by
    obtain ⟨hp, g, d, tk, os⟩ := s; obtain ⟨hH, hR⟩ := hs; have sb := sub_enumerate
    have begin1 : ∀ {A' : Around} {E Q : Value → Shared → Prop}, Q (.ref hp.objs.size) ⟨hp.push o, g, d, tk, os⟩ → wpAny (model prog w) A' (pyIter v) Q E ⟨hp, g, d, tk, os⟩ := fun q => B.iter prog w _ _ ⟨hp, g, d, tk, os⟩ _ hH q
    wp_walk using begin1
    refine wpAny_stack_any fun st0 => wpAny_pure ?_; split
    · rename_i c _ _ _ _ _; cases (c == Value.type "enumerate") <;> (wp_walk using begin1; exact ⟨_, rfl, hR⟩)
    · wp_walk using begin1; exact ⟨_, rfl, hR⟩
theorem call_en {prog : Program} {w : World} {A : Around} {E : Value → Shared → Prop} {s : Shared} {v : Value} {o : Obj} {H : Heap → Prop} {Q : Value → Shared → Prop} (B : Begins v o H) (hH : H s.heap)
    (k : ∀ h', IsEnum h' (s.heap.objs.size + 1) s.heap.objs.size 0 .none → h'.get? s.heap.objs.size = some o → (∀ b u, s.heap.get? b = some u → h'.get? b = some u) → Q (.ref (s.heap.objs.size + 1)) { s with heap := h' }) : wpAny (model prog w) A (call (.type "enumerate") [v]) Q E s := by
  refine callType_new F.called_enumerate (by decide) (F.typeCall_enumerate_1 v) (F.newCall_enumerate_1 v) (fun obj => F.args_object_init_2 obj v) F.entry_enumerate_new (meets_en B) ⟨hH, ?_⟩
  have sz : (s.heap.push o).objs.size = s.heap.objs.size + 1 := Heap.size_push ..
  have e1 : ((s.heap.push o).push (enO s.heap.objs.size)).get? (s.heap.objs.size + 1) = some (enO s.heap.objs.size) := by rw [← sz]; exact Heap.get?_push_size (s.heap.push o) rfl
  show _ ∧ _
  rw [sz]
  exact ⟨⟨_, e1, rfl⟩, k _ e1 (Heap.get?_push_of_some _ (Heap.get?_push_size _ B.free)) fun b u x => Heap.get?_push_of_some _ (Heap.get?_push_of_some _ x)⟩
def IteT (K : PySem.W.Frag) (a : Addr) : It :=
  ⟨fun i H => ∃ (xs : List V) (x : V), SqT K H a xs ∧ xs[i]? = some x, fun i H v H' => ∃ t x, v = .ref t ∧ H t = none ∧ H' = upd H t (.tup [.int (i : Nat), x]) ∧ ∀ xs, SqT K H a xs → xs[i]? = some x, fun i H => ∃ xs : List V, SqT K H a xs ∧ xs.length ≤ i⟩
/-- how a turn of enumerate over the tuple at a stands: e the enumerate, it its iterator -/
def EnSt (a e it : Addr) (i : Nat) (h : Heap) : Prop := (∃ old, IsEnum h e it ((i : Nat) : Int) old) ∧ h.IsTupleIter it a i ∧ e ≠ it ∧ e ≠ a ∧ a ≠ it
theorem turn_en {P : Program} {w : World} {K : PySem.W.Frag} {elts : List Expr} {kk : Nat} {tpos : Pos} (a e it : Addr) : Turn P w K (.Tuple elts kk tpos) (IteT K a) [e, it] e (EnSt a e it) where
  mem := by simp
  obj := fun i h st b hb => by
    obtain ⟨⟨old, he⟩, ⟨o, ho, hc, hd⟩, _⟩ := st
    rcases (show b = e ∨ b = it by simpa using hb) with rfl | rfl
    · exact ⟨_, he, fun v q => nomatch q⟩
    · exact ⟨o, ho, fun v q => by rw [hd] at q; cases q⟩
  keep := fun i h h' st k => let ⟨⟨old, he⟩, hi, hn⟩ := st; ⟨⟨old, k e (by simp) _ he⟩, hi.at fun o q => k it (by simp) o q, hn⟩
  item := by
    intro X hP hw hK hc i pins s σ H E I hf st hg
    subst hP hw hK
    obtain ⟨⟨old, he⟩, hit, hne, hea, hai⟩ := st
    obtain ⟨xs, x, hq, hx⟩ := hg
    obtain ⟨its, rv, tp, _⟩ := I.tuple hq
    obtain ⟨u, hu, ru⟩ := rv.get hx
    have hus : its.toArray[i]? = some u := by simpa using hu
    have hlt : i < its.toArray.size := (Array.getElem?_eq_some_iff.mp hus).1
    have hel : e < s.heap.objs.size := Heap.lt_size he
    have hil : it < s.heap.objs.size := by obtain ⟨_, q, _⟩ := hit; exact Heap.lt_size q
    have D : Draws X.prog X.w X.A.in1 it [it, a] its.toArray.size (fun i v => its.toArray[i]? = some v) (fun i h => h.IsTupleIter it a i ∧ h.IsTuple a its.toArray) := Draws.tuple (show X.A.in1.handled = none from I.ok.hd hc) it a hai its.toArray
    refine PySem.wpAny_pyNext_enum_itemC D he ⟨hit, tp⟩ hlt hne (by simp [hne, hea]) fun x' h' tk hx' ho hst hT hsz hk => ?_
    have ex : x' = u := by have := hx'.symm.trans hus; exact Option.some.inj this
    subst ex
    refine ⟨_, rfl, wpAny_letOwnedTupleGo_enum (s := { s with heap := h', toks := tk + 1 }) ho fun h'' he' sb => ?_⟩
    have hT2 : h''.get? s.heap.objs.size = some { cls := .type "tuple", data := .seq #[.int i tk, x'] } := (sb.2 _ (Nat.ne_of_gt hel)).trans hT
    have new : ObjOk X.prog X.w (upd H s.heap.objs.size (.tup [.int (i : Nat), x])) h'' s.heap.objs.size (.tup [.int (i : Nat), x]) := ⟨by show 2 ≤ sizeLine; decide, [.int i tk, x'], .cons ⟨_, rfl⟩ (.cons ru .nil), ⟨_, hT2, rfl, _, rfl⟩⟩
    have I1 : Inv X pins σ (upd H s.heap.objs.size (.tup [.int (i : Nat), x])) { s with heap := h'', toks := tk + 1 } :=
      I.turnedNew (t' := tk + 1) (ch := [e, it]) (fun b ob hb q => (sb.2 b (fun z => hb (by simp [z]))).trans (hk b ob (fun z => hb (by simp [z])) (fun z => hb (by simp [z])) q)) hf (Nat.le_refl _) new
    have e1 : ((i + 1 : Nat) : Int) = (i : Int) + 1 := by omega
    refine ⟨.ref s.heap.objs.size, _, I1, rfl, ⟨_, x, rfl, I.hok.fresh (Nat.le_refl _), rfl, fun ys hy => by rw [I.tuple_inj hy hq]; exact hx⟩, ⟨⟨x', by rw [e1]; exact he'⟩, hst.1.at fun o q => (sb.2 it (Ne.symm hne)).trans q, hne, hea, hai⟩, fun b hb => ?_⟩
    have hbl : b < s.heap.objs.size := by rcases (show b = e ∨ b = it by simpa using hb) with rfl | rfl <;> assumption
    rw [upd_ne (Nat.ne_of_lt hbl)]; exact (hf b hb).1
  done := by
    intro X hP hw hK hc i pins s σ H E I hf st hg
    subst hP hw hK
    obtain ⟨⟨old, he⟩, hit, hne, hea, hai⟩ := st
    obtain ⟨xs, hq, hx⟩ := hg
    obtain ⟨its, rv, tp, _⟩ := I.tuple hq
    obtain ⟨f0, f1, f2, f3, f4, f5⟩ := hf it (by simp)
    have hl := rv.length
    have D := draws_end (prog := X.prog) (w := X.w) (A := X.A.in1) (show X.A.in1.handled = none from I.ok.hd hc) it a its.toArray i (by simp; omega) hai
    exact wpAny_pyNext_enum_endD D he ⟨rfl, hit, tp⟩ fun h' eb => ⟨rfl, I.turned (t' := s.toks) (fun b o hb q => eb b o hb q) f0 f1 f3 f4 f5⟩
  self := fun A i s Q E st h => let ⟨⟨_, he⟩, _⟩ := st; wpAny_pyIter_enum he h
/-- what enumerate goes over: a list, or a tuple -/
def iEnumX (K : PySem.W.Frag) (ta : TA) : TI := fun σ H R => ta σ H fun vs H1 => ∃ a xs, vs = [.ref a] ∧ ((SqL K H1 a xs ∧ R (Ite K a) H1) ∨ (SqT K H1 a xs ∧ R (IteT K a) H1))
theorem pi_enumX {X : Cx} {e : Expr} {ta : TA} {p pos tpos : Pos} {elts : List Expr} {kk : Nat} (hm : X.mg "enumerate" = none) (ha : PA X [e] ta) (hg : Gl X "enumerate" := by rfl) (hs : starEach [e] X.env = [(false, eval e X.env)] := by rfl) : PI X (.Tuple elts kk tpos) (.Call (.Name "enumerate" p) [e] [] pos) (iEnumX X.K ta) := by
  refine ⟨fun pins s σ H R I hh => ?_⟩
  refine Call_ (ld_blt I hg hm boot_enumerate (PyProof.Rows.callWith_type1 (thn (ha.run pos pins s σ H _ I hh) fun us s1 ⟨vs, H1, I1, r1, a, xs, ev, hq⟩ => ?_) hs rfl))
  subst ev
  cases r1 with
  | cons r rr =>
    cases rr; cases r
    have fp : ∀ b ∈ [s1.heap.objs.size + 1, s1.heap.objs.size], s1.heap.objs.size ≤ b := fun b hb => by rcases (show b = s1.heap.objs.size + 1 ∨ b = s1.heap.objs.size by simpa using hb) with rfl | rfl <;> omega
    rcases hq with ⟨hq, q⟩ | ⟨hq, q⟩
    · obtain ⟨its, rv, lp, _⟩ := I1.list hq
      refine call_enumerate_list lp.isList fun h' he hit hz hk => wpAny_pyIter_enum he ⟨s1.heap.objs.size + 1, [s1.heap.objs.size + 1, s1.heap.objs.size], _, _, H1, rfl, I1.kept (t' := s1.toks) hk, turn_enum a (s1.heap.objs.size + 1) s1.heap.objs.size, ⟨⟨.none, he⟩, hit, Nat.succ_ne_self _⟩, fun b hb => I1.fpOk (fp b hb) (I1.hok.fresh (fp b hb)), q⟩
    · obtain ⟨its, rv, tp, _⟩ := I1.tuple hq
      have al : a < s1.heap.objs.size := by obtain ⟨_, q, _⟩ := id tp; exact Heap.lt_size q
      refine call_en (begins_tuple a its.toArray) tp fun h' he ho hk => wpAny_pyIter_enum he ⟨s1.heap.objs.size + 1, [s1.heap.objs.size + 1, s1.heap.objs.size], _, _, H1, rfl, I1.kept (t' := s1.toks) hk, turn_en a (s1.heap.objs.size + 1) s1.heap.objs.size, ⟨⟨.none, he⟩, ⟨_, ho, rfl, rfl⟩, Nat.succ_ne_self _, (Nat.ne_of_lt (Nat.lt_succ_of_lt al)).symm, Nat.ne_of_lt al⟩, fun b hb => I1.fpOk (fp b hb) (I1.hok.fresh (fp b hb)), q⟩
section
variable {K : KT}
theorem it_enumT {G0 : Hp} {q : Addr} {vs : List V} {ds : List PD} (hG : ∀ G H, Ex G0 G → Ex G H → SqT K H q vs) (r : RpAll K G0 vs ds) : ItOk K G0 (IteT K q) (enumP ds) := fun B σ ρ G H e R => by
  have hq := hG G H e R.gh
  have hl : (enumP ds).length = ds.length := by unfold enumP; rw [List.length_mapIdx]
  refine ⟨fun i hi => ⟨vs, hq, by rw [r.length, ← hl]; exact hi⟩, fun i d hd => ?_⟩
  unfold enumP at hd
  rw [List.getElem?_mapIdx] at hd
  cases hx : ds[i]? with
  | none => rw [hx] at hd; cases hd
  | some x =>
    rw [hx] at hd
    cases hd
    obtain ⟨v, hv, rv⟩ := r.get hx
    refine ⟨⟨vs, v, hq, hv⟩, fun y H' ⟨t, w, ey, ht, eH, hw⟩ => ?_⟩
    have := hw vs hq
    rw [hv] at this; cases this
    subst ey; subst eH
    exact fresh_tup R ht (.cons (.int _) (.cons (rv.mono e) .nil))
def wEnumX (wa : Wa) : Wi := fun ρ Q => wa ρ fun rs ρ1 => frz rs ρ1 fun ds ρ2 => match ds with
  | [.lst xs] => Q (enumP xs) ρ2
  | [.scr ns] => Q (enumP (ns.map .int)) ρ2
  | [.tup xs] => Q (enumP xs) ρ2
  | _ => False
theorem wi_enumX {t : TA} {wa : Wa} (h : WAa K t wa) : WIi K (iEnumX K t) (wEnumX wa) := fun B G H σ ρ Q QJ R q k =>
  h B G H σ ρ _ _ R q fun vs G1 H1 ρ1 rs S1 R1 rr q1 => by
    obtain ⟨⟨ds, ρ2⟩, e, q1⟩ := ok_some q1
    obtain ⟨G2, S2, R2, ra⟩ := frz_all R1 rr e
    match ds, ra, q1 with
    | [.lst xs], ra, q1 =>
      obtain ⟨w, ew, rw'⟩ := ra.one
      cases ew
      cases rw' with
      | lst hg r => exact ⟨_, _, rfl, .inl ⟨SqL.of (R2.gh _ _ hg nt_lst), k _ G2 H1 ρ2 _ (S1.trans S2) R2 (it_enum (fun G' H' e e' => SqL.of (e' _ _ (e _ _ hg nt_lst) nt_lst)) r) q1⟩⟩
    | [.scr ns], ra, q1 =>
      obtain ⟨w, ew, rw'⟩ := ra.one
      cases ew
      cases rw' with
      | scr hg => exact ⟨_, _, rfl, .inl ⟨ex_l R2.gh hg, k _ G2 H1 ρ2 _ (S1.trans S2) R2 (it_enum (fun G' H' e e' => ex_l e' (ex_l e hg)) (rp_ints ns)) q1⟩⟩
    | [.tup xs], ra, q1 =>
      obtain ⟨w, ew, rw'⟩ := ra.one
      cases ew
      cases rw' with
      | tup hg r => exact ⟨_, _, rfl, .inr ⟨ex_t R2.gh hg, k _ G2 H1 ρ2 _ (S1.trans S2) R2 (it_enumT (fun G' H' e e' => ex_t e' (ex_t e hg)) r) q1⟩⟩
theorem di_enumX {X : CxT} {e : Expr} {t : TA} {wa : Wa} {elts : List Expr} {kk : Nat} {p pos tpos : Pos} (hm : X.mg "enumerate" = none) (ha : DA X [e] t wa) (hg : Gl X "enumerate" := by rfl) (hs : starEach [e] X.env = [(false, eval e X.env)] := by rfl) :
    DI X (.Tuple elts kk tpos) (.Call (.Name "enumerate" p) [e] [] pos) (iEnumX X.K t) (wEnumX wa) := ⟨pi_enumX hm ha.pa hg hs, wi_enumX ha.wa⟩
end
end DL

set_option Elab.async false
set_option linter.all false
set_option maxRecDepth 100000
set_option maxHeartbeats 2000000
namespace DL
open PySem L2
/-! ### raise C(e) -/
theorem upd_raised {H : Hp} {a d : Addr} {x y z u : HO} (hda : d ≠ a) (ha : H a = none) : upd (del (upd (upd (upd H a x) d y) a z) a) d u = upd H d u := by
  funext b
  by_cases hd : b = d
  · subst hd; rw [upd_same, upd_same]
  · rw [upd_ne hd, upd_ne hd]
    by_cases hb : b = a
    · subst hb; rw [del_same, ha]
    · rw [del_ne hb, upd_ne hb, upd_ne hd, upd_ne hb]
def wRaise (C : Addr) (Ξ : Xp) (wa : Wa) : Ws := fun O ρ => wa ρ fun rs ρ1 => frz rs ρ1 fun ds _ => match ds with
  | [d] => Ξ C d
  | _ => False
section
variable {X : CxT} {K : KT} {T : Nat → Bool} {e : Expr} {p pos pos' : Pos} {x : Str} {C fI : Addr}
theorem ds_raise {k : Nat} {ta : TA} {wa : Wa} (E : Erc X.prog X.w X.cx.K X.mg X.base k x C fI) (hr : Room (k + 1) X.A) (hc : X.calm = true) (ha : DA X [e] ta wa) (hg : Gl X x := by rfl)
    (hdb : (x == ("__debug__" : Str)) = false := by decide) (he : starEach (e :: []) X.env = (false, eval e X.env) :: starEach [] X.env := by rfl) (hpl : (backTo pos (starEach [] X.env)).any (·.1) = false := by rfl) :
    DS X T (.Raise (some (.Call (.Name x p) [e] [] pos)) none pos') (fun _ σ H => tMkO C (spErr X.cx.K) [] ta σ H fun cls d H' => X.W cls d σ H') (wRaise C X.Ξ wa) := by
  obtain ⟨fd, h1, T1, h3, h4⟩ := E.ex
  refine ⟨ps_raise hc X.tk (pmk_oex T1.oex T1.iC T1.tI h3 hr h4 .nil pass0 hg h1 ha.pa hdb he hpl), fun B G H σ S0 ρ O D R P q kn kr kb kc => ?_⟩
  refine ha.wa B G H σ ρ _ _ R q fun vs G1 H1 ρ1 rs S1 R1 rr q1 => ?_
  obtain ⟨⟨ds, ρ2⟩, e, q1⟩ := ok_some q1
  obtain ⟨G2, S2, R2, ra⟩ := frz_all R1 rr e
  match ds, ra, q1 with
  | [dv], ra, q1 =>
    obtain ⟨v, rfl, rv⟩ := ra.one
    refine ⟨by show 1 ≤ 1000; decide, fun a na => ⟨a, C, v, rfl, T1.oex, T1.no, upd_same, fun d hd hda => ?_⟩⟩
    have nd : H1 d = none := by rw [upd_ne hda] at hd; exact hd
    refine ⟨rfl, d, [(("value" : Str), v)], upd_same, by rw [upd_ne hda]; exact upd_same, nd, ?_⟩
    rw [upd_raised hda na]
    obtain ⟨S3, R3⟩ := rep_add R2 nd (o := .xd [(("value" : Str), v)]) nt_xd
    exact X.lk _ _ σ C d _ v dv R3.z.s (fun a h => R3.bh a (R3.z.b a h)) R3.tb R3.gh upd_same upd_same (by simp [List.lookup]) (rv.mono S3.g) q1
end
/-! ### try .. except X as n -/
/-- an exception that was caught -/
def exA (a : Addr) (cls : Value) (d : Option Addr) : HO := .ext fun h => ∃ (oe : Obj) (vs : Array Value), h.get? a = some oe ∧ Zc cls d oe ∧ oe.data = .fields vs
/-- the context of an except suite that knows the exception -/
abbrev hotC (X : Cx) (a : Addr) : Cx := { X with A := X.A.mark (some (.ref a)), calm := false, xe := fun _ _ => False }
section
variable {X : Cx} {pins : List (Addr × Obj)} {σ : L2.St} {H : Hp} {s : Shared} {a : Addr}
theorem ok_hot (k : X.Ok) : (hotC X a).Ok := { mod := k.mod, kind := k.kind, glob := k.glob, blt := k.blt, above := k.above, inj := k.inj, has := k.has, cab := k.cab, hd := (fun z => nomatch (show false = true from z)), frames := k.frames, stk := k.stk, exf := k.exf, bs := k.bs, bsz := k.bsz, noex := k.noex, exfs := k.exfs, funs := k.funs, frf := k.frf }
theorem inv_unhot (J : L2.Inv (hotC X a) pins σ H s) (k : X.Ok) : L2.Inv X pins σ H s := { ok := k, os := J.os, bare := J.bare, base := J.base, loc := J.loc, cell := J.cell, free := J.free, freeC := J.freeC, pin := J.pin, hok := J.hok, len := J.len }
theorem inv_hot {oe : Obj} {vs : Array Value} {cls : Value} {d : Option Addr} (J : L2.Inv X pins σ H s) (he : s.heap.get? a = some oe) (hz : Zc cls d oe) (hd : oe.data = .fields vs) (na : H a = none) (nL : a ≠ X.env.locals)
    (n0 : X.s_0.heap.get? a = none) (np : ∀ p ∈ X.pn ++ pins, p.1 ≠ a) : L2.Inv (hotC X a) pins σ (upd H a (exA a cls d)) s := by
  have other : ∀ {b : Addr} {u : HO}, H b = some u → b ≠ a := fun {b u} h z => by rw [z, na] at h; cases h
  have old : ∀ {b : Addr} {o : Obj}, X.s_0.heap.get? b = some o → b ≠ a := fun {b o} h z => by rw [z, n0] at h; cases h
  refine { ok := ok_hot J.ok, os := J.os, bare := J.bare, base := ?_, loc := J.loc, cell := J.cell, free := ?_, freeC := fun y c hc => ?_, pin := fun p hp => ?_, hok := fun b u hb => ?_, len := J.len }
  · exact { keep := J.base.keep, slot := J.base.slot, there := J.base.there
            free := fun b o hb n hx => by rw [upd_ne (old hb)]; exact J.base.free b o hb n hx
            tups := fun b xs hb => by have z := J.base.tups b xs hb; rw [upd_ne (other z)]; exact z
            frzs := fun b o u hb => by have z := J.base.frzs b o u hb; rw [upd_ne (other z)]; exact z
            tbls := fun b ps hb => by obtain ⟨more, z⟩ := J.base.tbls b ps hb; exact ⟨more, by rw [upd_ne (other z)]; exact z⟩ }
  · rw [upd_ne nL.symm]; exact J.free
  · have hne : c ≠ a := fun z => by
      obtain ⟨w, o, ho, hdat⟩ := J.cell y c hc
      rw [z, he] at ho; cases ho
      rw [hd] at hdat; cases hdat
    rw [upd_ne hne]; exact J.freeC y c hc
  · obtain ⟨p1, p2, p3⟩ := J.pin p hp
    exact ⟨p1, by rw [upd_ne (np p hp)]; exact p2, p3⟩
  · by_cases hb' : b = a
    · subst hb'
      rw [upd_same] at hb; cases hb
      refine ⟨⟨oe, vs, he, hz, hd⟩, ⟨oe, he⟩, fun h1 h2 hx hk => ?_⟩
      obtain ⟨o1, v1, q1, q2, q3⟩ := hx
      exact ⟨o1, v1, hk _ q1, q2, q3⟩
    · rw [upd_ne hb'] at hb
      exact (J.hok b u hb).stay (fun _ _ _ r => r) (fun c r => by rw [upd_ne (other r)]; exact r) (fun c xs r => by rw [upd_ne (other r)]; exact r)
end
/-- the suite's ends: the name goes -/
def endsOut (i : Nat) (D : Ends) : Ends := { nx := fun σ' H' => D.nx (σ'.set i none) H', rt := D.rt, bk := fun σ' H' => D.bk (σ'.set i none) H', ct := fun σ' H' => D.ct (σ'.set i none) H' }
def wHot (KF : PySem.W.Frag) (c : Value) (i : Nat) (ts : TS) (D : Ends) : WX := fun cls d σ H => PySem.W.exmOne KF cls c = some true ∧ ∀ a, H a = none → ts (endsOut i D) (σ.set i (some (.ref a))) (upd H a (exA a cls d))
section
variable {X : Cx} {x n : Str} {c : Value} {i : Nat} {body suite : List Stmt} {s0 : Stmt} {np pos pos' : Pos} {tb : WX → TS} {ts : TS}
theorem ps_try_hot (hs : X.stack = X.env :: X.outer) (hf : X.env.frame = some X.env.locals) (hex : X.ex = []) (hN : X.N.Nodup) (hi : X.N[i]? = some n) (hl : X.env.kindOf n = some .local) (hc : Names X x c)
    (hb : ∀ (W : WX) (pn : List (Addr × Obj)) (xe : Value → Shared → Prop), Takes (X.tr pn xe) W → PassesOwn (model X.prog X.w) X.A X.env xe → PSs (X.tr pn xe) body (tb W))
    (hsu : ∀ a : Addr, PSs (hotC X a) (s0 :: suite) ts) :
    PS X (.Try body [.ExceptHandler (some (.Name x np)) (some n) (s0 :: suite) pos'] [] [] pos) (fun D σ H => tb (wHot X.K c i ts D) D σ H) := by
  constructor
  intro pins s σ H D I h
  have ok := I.ok
  have frs1 : X.A.frames = some (X.env :: X.outer) := ok.frames.trans (by rw [hs])
  refine wpAny_Try_except ?_
  refine wpAny_mono ((hb (wHot X.K c i ts D) (X.pn ++ pins) _ (fun u s' xx => ?_) PassesOwn.looking).run [] s σ H D (I.toTry _) h) (fun f s1 hsp => ?_) (fun e s1 he => he)
  · obtain ⟨a, Bg, sI, pins', σ', H', cls, d, rfl, J', nb, up, sky, na, os, ag, hb1, hyes⟩ := xx
    have J : L2.Inv X pins σ' H' sI := J'.ofTry ok
    have sky2 : Sky Bg (X.env :: X.outer) a (Zc cls d) X.env.locals s'.heap := hs ▸ sky
    show wpAny (model X.prog X.w) X.A (noteFrame (.ref a) X.env) _ _ _
    refine Sky.land Zc.steady frs1 hf sky2 fun h3 fl3 up3 => ?_
    have J3 : L2.Inv X pins σ' H' { s' with heap := h3 } := J.landed nb fl3.1 (up.trans up3) os ag
    obtain ⟨oe3, vs3, he3, hz3, hd3⟩ := fl3.there
    have nfr : a ∉ frs (X.env :: X.outer) := fun hm => by
      obtain ⟨_, o', e', hnf⟩ := fl3.2.2.1.mem hm
      rw [he3] at e'; cases e'
      exact hnf _ hd3
    have nL : a ≠ X.env.locals := fun z => nfr (List.mem_filterMap.mpr ⟨X.env, List.mem_cons_self, by rw [hf, z]⟩)
    have nF : a ∉ X.fs := fun hm => by
      obtain ⟨e, h1, h2⟩ := List.mem_filterMap.mp hm
      exact nfr (List.mem_filterMap.mpr ⟨e, List.mem_cons_of_mem _ h1, h2⟩)
    have nstk : a ∉ frs X.stack := by rw [hs]; exact nfr
    have notG : ∀ o, sI.heap.get? a ≠ some o := fun o z => by
      have z1 := nb a o z nstk
      rw [fl3.2.1] at z1; cases z1
    have n0 : X.s_0.heap.get? a = none := by
      cases e0 : X.s_0.heap.get? a with
      | none => rfl
      | some o =>
        obtain ⟨o', z⟩ := J.base.there a o e0 (by rw [hex]; exact List.not_mem_nil)
        exact absurd z (notG o')
    have npin : ∀ p ∈ X.pn ++ pins, p.1 ≠ a := fun p hp z => by
      have := (J.pin p hp).1
      rw [z] at this
      exact notG _ this
    have K3 := inv_hot J3 he3 hz3 hd3 na nL n0 npin
    refine wpAny_handleBy_cons (codeAny_handlers_test ?_) (by intro q; cases q)
    have LT : PySem.W.Looks (model X.prog X.w) h3 (typeOf (.ref a)) cls := fun A Q E s k q => wpAny_typeOf_ref (k _ _ he3) (by rw [hz3.1]; exact q)
    have LM := PySem.W.exm_one (M := model X.prog X.w) J3.kIn LT hb1
    have test : ∀ {Q : Value → Shared → Prop} {E : Value → Shared → Prop}, Q c { s' with heap := h3 } → wpAny (model X.prog X.w) (X.A.mark (some (.ref a))) (eval (.Name x np) X.env) Q E { s' with heap := h3 } := fun {Q E} q => by
      obtain ⟨hg, hdbg, hm | ⟨hm, hv, hnn⟩⟩ := hc
      · exact ld_glob (X := hotC X a) K3 hg hm q hdbg
      · exact ld_blt (X := hotC X a) K3 hg hm hv q hnn hdbg
    refine test (LM.here ?_)
    refine codeAny_handlers_suite_as ?_
    refine HandSPX.lands_againZ fl3 fun h4 fl4 up4 => ?_
    have J4 : L2.Inv X pins σ' H' { s' with heap := h4 } := J.landed nb fl4.1 ((up.trans up3).trans up4) os ag
    obtain ⟨oe4, vs4, he4, hz4, hd4⟩ := fl4.there
    have K4 := inv_hot J4 he4 hz4 hd4 na nL n0 npin
    refine store_ok (X := hotC X a) (v := .ref a) K4 hN hi (.inl hl) rfl (fun s5 K5 => ?_) (.inr hl)
    refine wpAny_mono ((hsu a).run pins s5 _ _ (endsOut i D) K5 (hyes a na)) (fun f s6 hsp => ?_) (fun _ _ z => False.elim z)
    have fin : ∀ {σ6 : L2.St} {H6 : Hp} {Q : Shared → Prop}, L2.Inv (hotC X a) pins σ6 H6 s6 → (∀ s7, L2.Inv X pins (σ6.set i none) H6 s7 → Q s7) →
        wpAny (model X.prog X.w) X.A (do bindName X.env n .none; unbindBehindTheSuite X.env n pos') (fun _ s7 => Q s7) X.xe s6 := fun {σ6 H6 Q} K6 hq => gone_ok (inv_unhot K6 ok) hN hi hl hq
    cases f with
    | next => obtain ⟨σ6, H6, K6, q6⟩ := hsp; exact fin K6 fun s7 J7 => ⟨_, _, J7, q6⟩
    | brk => obtain ⟨σ6, H6, K6, q6⟩ := hsp; exact fin K6 fun s7 J7 => ⟨_, _, J7, q6⟩
    | cont => obtain ⟨σ6, H6, K6, q6⟩ := hsp; exact fin K6 fun s7 J7 => ⟨_, _, J7, q6⟩
    | ret u => obtain ⟨v6, σ6, H6, K6, r6, q6⟩ := hsp; exact fin K6 fun s7 J7 => ⟨_, _, _, J7, r6, q6⟩
  · cases f with
    | next => obtain ⟨σ', H', J', q⟩ := hsp; exact wpAny_execs_nil ⟨σ', H', J'.ofTry ok, q⟩
    | brk => obtain ⟨σ', H', J', q⟩ := hsp; exact ⟨σ', H', J'.ofTry ok, q⟩
    | cont => obtain ⟨σ', H', J', q⟩ := hsp; exact ⟨σ', H', J'.ofTry ok, q⟩
    | ret u => obtain ⟨v, σ', H', J', r, q⟩ := hsp; exact ⟨v, σ', H', J'.ofTry ok, r, q⟩
end
end DL

set_option Elab.async false
set_option linter.all false
set_option maxRecDepth 100000
set_option maxHeartbeats 2000000
namespace DL
open PySem L2
/-! ### own things, hidden while others may be changed -/
def SD.veil : SD → SD
  | .own _ => .emp
  | s => s
def hide (ρ : Sl) : Sl := ρ.map SD.veil
/-- all that is tracked -/
def All (H : Hp) : Addr → Prop := Tr H
section
variable {K : KT} {B : Addr → Prop} {G H G' H' : Hp} {σ σ' : L2.St} {ρ ρ' : Sl}
theorem hide_get {i : Nat} {s : SD} (h : (hide ρ)[i]? = some s) : (∃ o, ρ[i]? = some (SD.own o) ∧ s = .emp) ∨ (ρ[i]? = some s ∧ ∀ o, s ≠ .own o) := by
  unfold hide at h
  rw [List.getElem?_map] at h
  cases e : ρ[i]? with
  | none => rw [e] at h; cases h
  | some x =>
    rw [e] at h
    have h : x.veil = s := Option.some.inj h
    cases x with
    | emp => subst h; exact .inr ⟨rfl, fun o z => by cases z⟩
    | dat d => subst h; exact .inr ⟨rfl, fun o z => by cases z⟩
    | own o => subst h; exact .inl ⟨o, rfl, rfl⟩
theorem Rep.hide (R : Rep K B G H σ ρ) : Rep (K.at (All H) G H) (All H) G H σ (hide ρ) := by
  refine ⟨R.gh, R.tb, R.z.new, fun a h => h, by unfold DL.hide; rw [List.length_map]; exact R.len, fun i d h => ?_, fun i o h => ?_, fun i j o u p h => ?_⟩
  · rcases hide_get h with ⟨_, _, z⟩ | ⟨e, _⟩
    · cases z
    · exact R.dat i d e
  · rcases hide_get h with ⟨_, _, z⟩ | ⟨_, z⟩
    · cases z
    · exact absurd rfl (z o)
  · rcases hide_get h with ⟨_, _, z⟩ | ⟨_, z⟩
    · cases z
    · exact absurd rfl (z o)
/-- behind steps that kept all that was tracked -/
theorem Rep.over (R : Rep K B G H σ ρ) (S : Stp (All H) G H G' H') (b1 : ∀ a, All H a → Tr H' a) (gh : Ex G' H') (tb : Tb G' H') : Rep K B G' H' σ ρ := by
  refine ⟨gh, tb, R.z.step (S.weak R.bh), fun a h => b1 a (R.bh a h), R.len, fun i d h => ?_, fun i o h => ?_, R.sep⟩
  · obtain ⟨v, h1, h2⟩ := R.dat i d h
    exact ⟨v, h1, h2.mono S.g⟩
  · obtain ⟨p, ho, h1, h2, h3, h4, h5⟩ := R.own i o h
    have nh : All H p := ⟨_, h2, h5.nt⟩
    exact ⟨p, ho, h1, S.h p ho nh h2 h5.nt, (S.n p ho nh h2 h5.ow).trans h3, h4, h5.mono S.g⟩
/-- slots behind a part in which own things were hidden: those at asg were assigned there -/
def unhide (asg : List Nat) (ρ ρ1 : Sl) : Sl := ρ.mapIdx fun i s => if asg.contains i then ρ1.getD i .emp else s
theorem unhide_get {asg : List Nat} {ρ ρ1 : Sl} {i : Nat} {s : SD} (hl : ρ1.length = ρ.length) (h : (unhide asg ρ ρ1)[i]? = some s) : (asg.contains i = true ∧ ρ1[i]? = some s) ∨ (asg.contains i = false ∧ ρ[i]? = some s) := by
  unfold DL.unhide at h
  rw [List.getElem?_mapIdx] at h
  cases e : ρ[i]? with
  | none => rw [e] at h; cases h
  | some x =>
    rw [e] at h
    have h : (if asg.contains i then ρ1.getD i .emp else x) = s := Option.some.inj h
    cases c : asg.contains i with
    | true =>
      rw [if_pos c] at h
      have hi : i < ρ1.length := by rw [hl]; exact (List.getElem?_eq_some_iff.mp e).1
      rw [List.getD_eq_getElem?_getD, List.getElem?_eq_getElem hi] at h
      exact .inl ⟨rfl, by rw [List.getElem?_eq_getElem hi]; exact congrArg some h⟩
    | false => rw [if_neg (by rw [c]; decide)] at h; subst h; exact .inr ⟨rfl, rfl⟩
theorem Rep.unhide {asg : List Nat} {B1 : Addr → Prop} {G1 H1 : Hp} (R : Rep K B G H σ ρ) (S : Stp (All H) G H G' H') (R' : Rep (K.at B1 G1 H1) (All H) G' H' σ' ρ') (P : Pn (fun i => !asg.contains i) σ σ') (hl : ρ'.length = ρ.length) : Rep K B G' H' σ' (unhide asg ρ ρ') := by
  have R2 := R.over S R'.bh R'.gh R'.tb
  have same : ∀ i, asg.contains i = false → σ'[i]? = σ[i]? := fun i c => P i (by show (!asg.contains i) = true; rw [c]; rfl)
  have oldH : ∀ {i : Nat} {o : OD} {p : Addr}, ρ[i]? = some (SD.own o) → σ[i]? = some (some (V.ref p)) → All H p := fun {i o p} e e2 => by
    obtain ⟨q, hq, a1, a2, _, _, a5⟩ := R.own i o e
    rw [e2] at a1; cases a1
    exact ⟨_, a2, a5.nt⟩
  refine ⟨R2.gh, R2.tb, R2.z, R2.bh, by unfold DL.unhide; rw [List.length_mapIdx, ← hl]; exact R'.len, fun i d h => ?_, fun i o h => ?_, fun i j o u p h1 h2 h3 h4 => ?_⟩
  · rcases unhide_get hl h with ⟨_, e⟩ | ⟨c, e⟩
    · exact R'.dat i d e
    · rw [same i c]; exact R2.dat i d e
  · rcases unhide_get hl h with ⟨_, e⟩ | ⟨c, e⟩
    · obtain ⟨p, ho, a1, a2, a3, a4, a5⟩ := R'.own i o e
      exact ⟨p, ho, a1, a2, a3, fun z => a4 (R.bh p z), a5⟩
    · rw [same i c]; exact R2.own i o e
  · rcases unhide_get hl h1 with ⟨_, e1⟩ | ⟨c1, e1⟩
    · obtain ⟨q, hq, a1, _, _, a4, _⟩ := R'.own i o e1
      rw [h3] at a1; cases a1
      rcases unhide_get hl h2 with ⟨_, e2⟩ | ⟨c2, e2⟩
      · exact R'.sep i j o u p e1 e2 h3 h4
      · rw [same j c2] at h4
        exact absurd (oldH e2 h4) a4
    · rcases unhide_get hl h2 with ⟨_, e2⟩ | ⟨c2, e2⟩
      · obtain ⟨q, hq, a1, _, _, a4, _⟩ := R'.own j u e2
        rw [h4] at a1; cases a1
        rw [same i c1] at h3
        exact absurd (oldH e1 h3) a4
      · rw [same i c1] at h3
        rw [same j c2] at h4
        exact R.sep i j o u p e1 e2 h3 h4
theorem Rep.unset (R : Rep K B G H σ ρ) (i : Nat) : Rep K B G H (σ.set i none) (ρ.set i .emp) := by
  have get : ∀ (j : Nat) (s : SD), (ρ.set i .emp)[j]? = some s → s ≠ .emp → ρ[j]? = some s ∧ (σ.set i none)[j]? = σ[j]? := fun j s h hs => by
    by_cases z : j = i
    · subst z
      by_cases hl : j < ρ.length
      · rw [List.getElem?_set_self hl] at h; cases h; exact absurd rfl hs
      · rw [List.getElem?_eq_none (by rw [List.length_set]; omega)] at h; cases h
    · rw [List.getElem?_set_ne (Ne.symm z)] at h
      exact ⟨h, List.getElem?_set_ne (Ne.symm z)⟩
  refine ⟨R.gh, R.tb, R.z, R.bh, by rw [List.length_set, List.length_set]; exact R.len, fun j d h => ?_, fun j o h => ?_, fun j k o u p h1 h2 h3 h4 => ?_⟩
  · obtain ⟨a, b⟩ := get j _ h (by intro z; cases z)
    rw [b]; exact R.dat j d a
  · obtain ⟨a, b⟩ := get j _ h (by intro z; cases z)
    rw [b]; exact R.own j o a
  · obtain ⟨a, b⟩ := get j _ h1 (by intro z; cases z)
    obtain ⟨a', b'⟩ := get k _ h2 (by intro z; cases z)
    rw [b] at h3; rw [b'] at h4
    exact R.sep j k o u p a a' h3 h4
theorem RR.shown {B1 : Addr → Prop} {G1 H1 : Hp} {v : V} {r : Rz} {ρ2 : Sl} (R : Rep K B G H σ ρ) (h : RR (K.at B1 G1 H1) (All H) G' H' σ' ρ' v r) (hf : r.free = true) (hs : ∀ (i : Nat) (u : OD) (p : Addr), ρ2[i]? = some (SD.own u) → σ'[i]? = some (some (V.ref p)) → ρ'[i]? = some (SD.own u) ∨ All H p) : RR K B G' H' σ' ρ2 v r := by
  cases h with
  | dat z => exact .dat z
  | bor z => cases hf
  | own h1 h2 h3 h4 h5 =>
    refine .own h1 h2 (fun z => h3 (R.bh _ z)) h4 fun i u hi hz => ?_
    rcases hs i u _ hi hz with z | z
    · exact h5 i u z hz
    · exact h3 z
end
/-! ### try: .. except X as n: .., as slots' data -/
/-- i: the slot of n; asg: the slots that the body assigns; N, cl: the classes caught -/
def wTry (i : Nat) (asg : List Nat) (N : Nat) (cl : Nat → Addr) (wb : Xp → Ws) (ws : Ws) : Ws := fun O ρ =>
  wb (fun C u => ∃ j, j < N ∧ C = cl j ∧ ws { nx := fun ρ' => O.nx (ρ'.set i .emp), rt := O.rt, bk := fun ρ' => O.bk (ρ'.set i .emp), ct := fun ρ' => O.ct (ρ'.set i .emp) } (ρ.set i (.dat (.err C u))))
    { nx := fun ρ1 => ρ1.length = ρ.length ∧ O.nx (unhide asg ρ ρ1), rt := fun r ρ1 => ρ1.length = ρ.length ∧ r.free = true ∧ O.rt r (unhide asg ρ ρ1) } (hide ρ)
/-- a wish that any exception meets -/
theorem takes_any {X : Cx} (hs : X.stack = X.env :: X.outer) (hf : X.env.frame = some X.env.locals) (W : WX) : ∃ xe : Value → Shared → Prop, PassesOwn (model X.prog X.w) X.A X.env xe ∧ Takes (X.tr [] xe) W :=
  ⟨_, PassesOwn.looking (K := fun u s => wpAny (model X.prog X.w) X.A (setFlight u none) (fun _ _ => True) X.xe s) (E₁ := X.xe), fun u s' xx => by
    obtain ⟨a, Bg, sI, pins', σ', H', cls, d, rfl, J, nb, up, sky, na, os, ag, _⟩ := xx
    have sky2 : Sky Bg (X.env :: X.outer) a (Zc cls d) X.env.locals s'.heap := hs ▸ sky
    exact Sky.land Zc.steady (J.ok.frames.trans (by rw [hs])) hf sky2 fun _ _ _ => trivial⟩
/-- the context of an except suite -/
abbrev CxT.hot (X : CxT) (a : Addr) : CxT := ⟨hotC X.cx a, X.T, X.B0, X.G0, X.H0, noX, fun _ _ _ _ => False, PassesOwn.never, takes0, lk_no⟩
section
variable {X : CxT} {T : Nat → Bool} {x n : Str} {CS : Addr} {i : Nat} {asg : List Nat} {body suite : List Stmt} {s0 : Stmt} {np pos pos' : Pos} {tb : WX → TS} {ts : TS} {wb : Xp → Ws} {ws : Ws} {N : Nat} {cl : Nat → Addr}
theorem ds_try (hs : X.stack = X.env :: X.outer) (hf : X.env.frame = some X.env.locals) (hex : X.ex = []) (hN : X.N.Nodup) (hi : X.N[i]? = some n) (hl : X.env.kindOf n = some .local) (hc : Names X x (.ref CS))
    (hm : ∀ j, j < N → PySem.W.exmOne X.cx.K (.ref (cl j)) (.ref CS) = some true) (hT : T i = false) (hA : asg.all (fun j => !T j) = true)
    (hb : ∀ (W : WX) (pn : List (Addr × Obj)) (xe : Value → Shared → Prop) (po : PassesOwn (model X.prog X.w) X.A X.env xe) (tk : Takes (X.cx.tr pn xe) W) (B0 : Addr → Prop) (G0 H0 : Hp) (Ξ : Xp) (lk : Lk X.cx.K B0 G0 H0 Ξ W),
      DSs ⟨X.cx.tr pn xe, X.T, B0, G0, H0, Ξ, W, po, tk, lk⟩ (fun j => !asg.contains j) body (tb W) (wb Ξ))
    (hW : ∀ (W : WX) (D : Ends) (σ : L2.St) (H : Hp), tb (fun cls d _ H' => W cls d σ H') D σ H → tb W D σ H)
    (hsu : ∀ a : Addr, DSs (X.hot a) T (s0 :: suite) ts ws) :
    DS X T (.Try body [.ExceptHandler (some (.Name x np)) (some n) (s0 :: suite) pos'] [] [] pos) (fun D σ H => tb (wHot X.cx.K (.ref CS) i ts D) D σ H) (wTry i asg N cl wb ws) := by
  refine ⟨ps_try_hot hs hf hex hN hi hl hc (fun W pn xe tk po => (hb W pn xe po tk (fun _ => False) (fun _ => none) (fun _ => none) noX lk_no).pss) (fun a => (hsu a).pss), fun B G H σ S0 ρ O D R P q kn kr kb kc => ?_⟩
  refine hW _ D σ H ?_
  -- what an exception finds
  have lk : Lk X.cx.K (All H) G H (fun C u => ∃ j, j < N ∧ C = cl j ∧ ws { nx := fun ρ' => O.nx (ρ'.set i .emp), rt := O.rt, bk := fun ρ' => O.bk (ρ'.set i .emp), ct := fun ρ' => O.ct (ρ'.set i .emp) } (ρ.set i (.dat (.err C u)))) (fun cls d _ H' => wHot X.cx.K (.ref CS) i ts D cls d σ H') := by
    rintro G' H' σ' C d fs v u S b1 tb1 gh1 hd gd hv rv ⟨j, hj, rfl, q2⟩
    refine ⟨hm j hj, fun a na => ?_⟩
    have R1 := R.over S b1 gh1 tb1
    obtain ⟨S2, R2⟩ := rep_add R1 na (o := exA a (.ref (cl j)) (some d)) nt_ext
    have nda : d ≠ a := fun z => by rw [z, na] at hd; cases hd
    have R3 := R2.store (i := i) (v := .ref a) (s := .dat (.err (cl j) u)) (fun d' e => by
      cases e
      exact .err upd_same (by rw [upd_ne nda]; exact gd) .had .had hv (rv.mono S2.g)) (fun o z => by cases z)
    have SS : Stp B G H _ _ := (S.weak R.bh).trans S2
    exact (hsu a).ws B _ _ _ S0 _ _ (endsOut i D) R3 (P.set hT) q2 (fun G4 H4 σ4 ρ4 S4 R4 P4 q4 => kn G4 H4 _ _ (SS.trans S4) (R4.unset i) (P4.set hT) q4) (fun G4 H4 σ4 ρ4 v r S4 R4 P4 rr q4 => kr G4 H4 σ4 ρ4 v r (SS.trans S4) R4 P4 rr q4)
      (fun G4 H4 σ4 ρ4 S4 R4 P4 q4 => kb G4 H4 _ _ (SS.trans S4) (R4.unset i) (P4.set hT) q4) (fun G4 H4 σ4 ρ4 S4 R4 P4 q4 => kc G4 H4 _ _ (SS.trans S4) (R4.unset i) (P4.set hT) q4)
  have pin : ∀ σ', Pn (fun j => !asg.contains j) σ σ' → Pn T S0 σ' := fun σ' P' j hj => by
    refine (P' j ?_).trans (P j hj)
    show (!asg.contains j) = true
    cases c : asg.contains j with
    | false => rfl
    | true =>
      have := List.all_eq_true.mp hA j (List.contains_iff_mem.mp c)
      rw [hj] at this; cases this
  obtain ⟨xe, po, tk⟩ := takes_any hs hf (fun cls d _ H' => wHot X.cx.K (.ref CS) i ts D cls d σ H')
  have main : WSs (X.K.at (All H) G H) (fun j => !asg.contains j) (tb fun cls d _ H' => wHot X.cx.K (.ref CS) i ts D cls d σ H') (wb fun C u => ∃ j, j < N ∧ C = cl j ∧ ws { nx := fun ρ' => O.nx (ρ'.set i .emp), rt := O.rt, bk := fun ρ' => O.bk (ρ'.set i .emp), ct := fun ρ' => O.ct (ρ'.set i .emp) } (ρ.set i (.dat (.err C u)))) := (hb _ [] xe po tk (All H) G H _ lk).ws
  refine main (All H) G H σ σ (hide ρ) _ D R.hide (fun _ _ => rfl) q (fun G4 H4 σ4 ρ4 S4 R4 P4 ⟨hl4, q4⟩ => ?_) (fun G4 H4 σ4 ρ4 v r S4 R4 P4 rr ⟨hl4, hf4, q4⟩ => ?_) (fun _ _ _ _ _ _ _ z => z.elim) (fun _ _ _ _ _ _ _ z => z.elim)
  · exact kn G4 H4 σ4 _ (S4.weak R.bh) (R.unhide S4 R4 P4 hl4) (pin _ P4) q4
  · refine kr G4 H4 σ4 _ v r (S4.weak R.bh) (R.unhide S4 R4 P4 hl4) (pin _ P4) (RR.shown R rr hf4 fun k u p h1 h2 => ?_) q4
    rcases unhide_get hl4 h1 with ⟨_, e⟩ | ⟨c, e⟩
    · exact .inl e
    · have e2 : σ[k]? = some (some (V.ref p)) := by rw [← P4 k (by show (!asg.contains k) = true; rw [c]; rfl)]; exact h2
      obtain ⟨q', hq, a1, a2, _, _, a5⟩ := R.own k u e
      rw [e2] at a1; cases a1
      exact .inr ⟨_, a2, a5.nt⟩
end
end DL

set_option Elab.async false
set_option linter.all false
set_option maxRecDepth 100000
set_option maxHeartbeats 2000000
namespace DL
open PySem L2
/-! ### a lambda, handed to a def that calls it in a try -/
/-- what a lambda does: its result, its exception -/
abbrev Lm1 := (Rz → Prop) → Xp → Prop
def wAct (f : Addr) (g : Hp) (L : Lm1) (Ξ : Xp) : We := fun ρ Q => ρ[0]? = some (.dat (.fn f g)) ∧ L (fun r => Q r ρ) Ξ
/-- what a lambda's reading does, at any later state -/
def LinkTl (KF : PySem.W.Frag) (Ts : List (Addr × Str)) (g : Hp) (tl : XK → Hp → VK → Prop) (L : Lm1) : Prop := ∀ (K' : KT) (B2 : Addr → Prop) (G2 H2 : Hp) (Qr : Rz → Prop) (Ξ : Xp) (QV : VK) (E : XK), K'.F = KF → K'.T = Ts → Rep K' B2 G2 H2 [] [] → Ex g G2 → L Qr Ξ →
  (∀ v G' H' r, Stp (All H2) G2 H2 G' H' → Rep ⟨KF, Ts, All H2, G2, H2⟩ (All H2) G' H' [] [] → RR ⟨KF, Ts, All H2, G2, H2⟩ (All H2) G' H' [] [] v r → r.free = true → Qr r → QV v H') → Lk KF (All H2) G2 H2 Ξ (fun cls d _ H' => E cls d H') → tl E H2 QV
/-- the reading of a() -/
def tAct (f c' : Addr) (q : Str) (tl : XK → Hp → VK → Prop) (W : WX) : TE := fun σ H Q => σ[0]? = some (some (.ref f)) ∧ H c' = some (LamX.CodeO c' q) ∧ tl (fun cls d H' => W cls d σ H') H Q
theorem Rep.bare {K : KT} {B : Addr → Prop} {G H : Hp} {σ : L2.St} {ρ : Sl} (R : Rep K B G H σ ρ) : Rep K B G H [] [] :=
  ⟨R.gh, R.tb, R.z, R.bh, rfl, fun i d h => by simp at h, fun i o h => by simp at h, fun i j o u p h => by simp at h⟩
theorem RR.bare {K K' : KT} (hF : K.F = K'.F) {B B' : Addr → Prop} (hb : ∀ a, B' a → B a) {G H : Hp} {σ : L2.St} {ρ : Sl} {v : V} {r : Rz} (h : RR K B G H σ ρ v r) (hf : r.free = true) : RR K' B' G H [] [] v r := by
  obtain ⟨F, T, B0, G0, H0⟩ := K
  obtain ⟨F', T', B0', G0', H0'⟩ := K'
  have hF : F = F' := hF
  subst hF
  cases h with
  | dat z => exact .dat z
  | bor z => cases hf
  | own h1 h2 h3 h4 _ => exact .own h1 h2 (fun z => h3 (hb _ z)) h4 fun i u hi => by simp at hi
/-- a result without slots, beside slots -/
theorem RR.beside {K K' : KT} (hF : K.F = K'.F) {B : Addr → Prop} {G H G0 H0 : Hp} {σ : L2.St} {ρ : Sl} {v : V} {r : Rz} (R : Rep K' B G0 H0 σ ρ) (h : RR K (All H0) G H [] [] v r) : RR K' B G H σ ρ v r := by
  obtain ⟨F, T, b0, g0, h0⟩ := K
  obtain ⟨F', T', b0', g0', h0'⟩ := K'
  have hF : F = F' := hF
  subst hF
  cases h with
  | dat z => exact .dat z
  | bor z => simp at z
  | own h1 h2 h3 h4 _ =>
    refine .own h1 h2 (fun z => h3 (R.bh _ z)) h4 fun i u hi hz => ?_
    obtain ⟨q, hq, a1, a2, _, _, a5⟩ := R.own i u hi
    rw [hz] at a1; cases a1
    exact h3 ⟨_, a2, a5.nt⟩
theorem we_act {K : KT} {f c' : Addr} {g : Hp} {q : Str} {tl : XK → Hp → VK → Prop} {L : Lm1} {Ξ : Xp} {W : WX} (hg : g c' = some (LamX.CodeO c' q)) (hl : LinkTl K.F K.T g tl L) (lk : Lk K.F K.B0 K.G0 K.H0 Ξ W) : WE K (tAct f c' q tl W) (wAct f g L Ξ) := fun B G H σ ρ Q QV R ⟨h0, hL⟩ k => by
  obtain ⟨v, hv, rv⟩ := R.dat 0 _ h0
  cases rv with
  | fn ex =>
    refine ⟨hv, R.gh _ _ (ex _ _ hg (by unfold LamX.CodeO; exact nt_ext)) (by unfold LamX.CodeO; exact nt_ext), ?_⟩
    refine hl K B G H _ Ξ QV _ rfl rfl R.bare ex hL (fun v G' H' r S R' rr hf q => ?_) (lk_call R.z R.bh lk)
    have R2 := R.over S R'.bh R'.gh R'.tb
    refine k v G' H' ρ r (S.weak R.bh) R2 ?_ q
    exact RR.beside (K := ⟨K.F, K.T, All H, G, H⟩) (K' := K) rfl R rr
/-- the context of a lambda's body -/
abbrev lamT (X : CxT) (A : Around) (outer : List PySem.Env) (s : Shared) (H : Hp) (E : XK) (scope : Scope) (f c' : Addr) (B0 : Addr → Prop) (G0 H0 : Hp) (Ξ : Xp) (lk : Lk X.cx.K B0 G0 H0 Ξ (fun cls d _ H' => E cls d H')) : CxT :=
  ⟨LamX.lamCx X.cx A outer s H E scope f c', X.T, B0, G0, H0, Ξ, fun cls d _ H' => E cls d H', PassesOwn.leaving, takes_of rfl rfl rfl rfl, lk⟩
/-- the context of the def that gets the lambda -/
abbrev hrdC (P : Program) (w : World) (KF : PySem.W.Frag) (mg : Str → Option Value) (base : Heap) (Ng : List Str) (x : Str) (sg : Scope) (g : Addr) (cdv : Value) (A : Around) (outer : List PySem.Env) (s : Shared) (H : Hp) : Cx := (cxOf C8.CX0 P w KF mg base Ng x sg g cdv A outer s H C8.E0).nox
abbrev hrdT (P : Program) (w : World) (KF : PySem.W.Frag) (Ts : List (Addr × Str)) (mg : Str → Option Value) (base : Heap) (Ng : List Str) (x : Str) (sg : Scope) (g : Addr) (cdv : Value) (A : Around) (outer : List PySem.Env) (s : Shared) (H : Hp) (B : Addr → Prop) (G : Hp) : CxT :=
  ⟨hrdC P w KF mg base Ng x sg g cdv A outer s H, Ts, B, G, H, noX, fun _ _ _ _ => False, PassesOwn.never, takes0, lk_no⟩
/-- a() within a try -/
def ActOk (Z : Cx) (Ts : List (Addr × Str)) (a : Str) (f : Addr) (gp : Hp) (tA : WX → TE) (L : Lm1) : Prop :=
  (∀ (W : WX) (pn : List (Addr × Obj)) (xe : Value → Shared → Prop) (po : PassesOwn (model Z.prog Z.w) Z.A Z.env xe) (tk : Takes (Z.tr pn xe) W) (B0 : Addr → Prop) (G0 H0 : Hp) (Ξ : Xp) (lk : Lk Z.K B0 G0 H0 Ξ W) (p1 p2 : Pos),
    DE ⟨Z.tr pn xe, Ts, B0, G0, H0, Ξ, W, po, tk, lk⟩ (.Call (.Name a p1) [] [] p2) (tA W) (wAct f gp L Ξ)) ∧
  ∀ (W : WX) (σ : L2.St) (H : Hp) (Q : VK), tA (fun cls d _ H' => W cls d σ H') σ H Q → tA W σ H Q
/-- a def that calls what it gets -/
structure Hrd (P : Program) (w : World) (KF : PySem.W.Frag) (Ts : List (Addr × Str)) (mg : Str → Option Value) (base : Heap) (x a : Str) (F : Lm1 → (Rz → Prop) → Prop) : Prop where
  ex : ∃ (g : Addr) (pg : Arguments) (bg : List Stmt) (sg : Scope) (dV kV doc pm cdv ct oc : Value) (an od : Option Addr) (osl : Array (Option Value)) (Ng : List Str) (Tg : Nat → Bool) (wh : Addr → Hp → Lm1 → Ws),
    mg x = some (.ref g) ∧ PySem.W.keepIn KF (.ref g) = true ∧ KF.lookup g = some ⟨oc, od, .func (PySem.W.fnOf x x pg bg sg dV kV doc pm an cdv ct), osl⟩ ∧ PySem.W.codeIn KF cdv x = true ∧ L2.Binds KF (PySem.W.fnOf x x pg bg sg dV kV doc pm an cdv ct) [a] [] ∧ FnScope Ng [a] sg ∧ Ng[0]? = some a ∧ Vis sg a ∧
    (∀ (A : Around) (outer : List PySem.Env) (s : Shared) (H : Hp), Room 1 (hrdC P w KF mg base Ng x sg g cdv A outer s H).A → ∀ (B : Addr → Prop) (G : Hp) (f : Addr) (gp : Hp) (tA : WX → TE) (L : Lm1), ActOk (hrdC P w KF mg base Ng x sg g cdv A outer s H) Ts a f gp tA L →
      ∃ t, DSs (hrdT P w KF Ts mg base Ng x sg g cdv A outer s H B G) Tg bg t (wh f gp L)) ∧
    ∀ L Q, F L Q → ∀ f gp, wh f gp L { nx := fun _ => Q (.dat .non), rt := fun r _ => r.free = true ∧ Q r } (.dat (.fn f gp) :: List.replicate (Ng.length - 1) .emp)
/-- what the def asks of the lambda -/
def TTh (KF : PySem.W.Frag) (Ts : List (Addr × Str)) (F : Lm1 → (Rz → Prop) → Prop) : (XK → Hp → VK → Prop) → Hp → VK → Prop := fun tl H Q => ∃ (G : Hp) (L : Lm1) (Qr : Rz → Prop), Rep ⟨KF, Ts, All H, G, H⟩ (All H) G H [] [] ∧ (∀ g, Ex G g → LinkTl KF Ts g tl L) ∧ F L Qr ∧
  ∀ v G' H' r, Stp (All H) G H G' H' → Rep ⟨KF, Ts, All H, G, H⟩ (All H) G' H' [] [] → RR ⟨KF, Ts, All H, G, H⟩ (All H) G' H' [] [] v r → r.free = true → Qr r → Q v H'
/-- a(), the lambda having been made in X at s, the context being the def's that got it -/
theorem pe_actW {X : Cx} {pins : List (Addr × Obj)} {σ : L2.St} {H : Hp} {s : Shared} {CXg : CXT} {Eg : XK} {Ng : List Str} {qg : Str} {sg : Scope} {g f c' : Addr} {cdg pm ctv : Value} {params : Arguments} {body : Expr} {scope : Scope} {k i : Nat} {a : Str} {pn : List (Addr × Obj)}
    {xe : Value → Shared → Prop} {W : WX} {tb : XK → TE} {p1 p2 : Pos} (I : L2.Inv X pins σ H s) (L : LamX.LamS X.env.scope scope)
    (hf : s.heap.get? f = some (PySem.W.kla_obj "<lambda>" (X.env.qual ++ "<lambda>") params body scope (cloFrom X.env.cells scope.names []) pm c' ctv)) (hfn : H f = none) (hfr : f ∉ frs X.stack)
    (hbind : bindArgs (PySem.W.kla_fn "<lambda>" (X.env.qual ++ "<lambda>") params body scope (cloFrom X.env.cells scope.names []) pm (.ref c') ctv) ⟨[], []⟩ = pure [])
    (tk : Takes ((cxOf CXg X.prog X.w X.K X.mg X.base Ng qg sg g cdg X.A X.stack s H Eg).tr pn xe) W) (hr : Room (k + 1) (X.A.deeper (PyProof.Rows.envOfC qg sg s.heap.objs.size g cdg)))
    (hgd : X.A.guards = some []) (hbody : ∀ (A : Around) (outer : List PySem.Env) (s : Shared) (H : Hp) (E : XK), Room k (A.deeper (LamX.lamEnv X scope s.heap.objs.size f c')) → A.guards = some [] → PE (LamX.lamCx X A outer s H E scope f c') body (tb E))
    (hN : Ng[i]? = some a) (h0 : i = 0) (hv : Vis sg a) (hd : (a == ("__debug__" : Str)) = false) (hcd : (a == ("__classdict__" : Str)) = false) :
    PE ((cxOf CXg X.prog X.w X.K X.mg X.base Ng qg sg g cdg X.A X.stack s H Eg).tr pn xe) (.Call (.Name a p1) [] [] p2) (tAct f c' (X.env.qual ++ "<lambda>") (fun E H' Q' => tb E σ H' Q') W) := by
  subst h0
  constructor
  intro pinsZ sZ σZ HZ Q IZ ⟨hs, hc, ht⟩
  have nameP := (pe_var (X := (cxOf CXg X.prog X.w X.K X.mg X.base Ng qg sg g cdg X.A X.stack s H Eg).tr pn xe) (pos := p1) (i := 0) hN hv hd hcd).run pinsZ sZ σZ HZ (fun v H1 => v = .ref f ∧ H1 = HZ) IZ ⟨.ref f, hs, rfl, rfl⟩
  refine wpAny_Call_Name_kw (thn nameP ?_)
  rintro u s1 ⟨v, H1, I1, r1, ev, eH⟩
  subst ev eH
  obtain rfl : u = Value.ref f := r1
  have ff := I1.base.keep f _ hf hfn hfr (fun z => nomatch (show f ∈ ([] : List Addr) from z))
  refine PySem.W.callWith_F0 ⟨_, _, _, _, ff⟩ ?_
  have un : Un (frs X.stack) [] H H1 s.heap s1.heap := I1.base
  obtain ⟨⟨oc, vs, t, hoc, hdc, hvc⟩, _, _⟩ := I1.hok c' _ hc
  let E : XK := fun cls d H' => W cls d σZ H'
  have run : codeAny (model X.prog X.w) (X.A.deeper (PyProof.Rows.envOfC qg sg s.heap.objs.size g cdg)) (.call (.ref f) ⟨[], []⟩) (CR (L2.CX X.prog X.w) (PyProof.Rows.envOfC qg sg s.heap.objs.size g cdg :: X.stack) X.prog X.w H1 s1 Q E) s1 := by
    refine PySem.W.kla_callFunE hr.depth ff rfl L.co L.gen rfl ⟨c', oc, vs, t, rfl, hoc, hdc, hvc⟩ ?_
    rw [hbind]
    have noC : ∀ y ∈ scope.names, y.2 ≠ .cell := fun y hy => (L.own y hy).2
    refine wpAny_pure (wpAny_newFunctionEnv noC (fun y hy => absurd hy (by simp)) ?_ L.kind)
    intro h₁ hns hsb
    refine ⟨I1.nolimit.fresh _ hsb, ?_⟩
    show codeAny _ _ (.expr body (LamX.lamEnv X scope s1.heap.objs.size f c')) _ _
    have kept : ∀ b o, s1.heap.get? b = some o → h₁.get? b = some o := fun b o e =>
      hsb.extBut b o (Nat.ne_of_lt (Heap.lt_size e)) (Heap.get?_push_of_some _ e)
    have J := LamX.lam_start2 (E := E) (f := f) (c' := c') (tk := s1.toks + ([] : List (Str × Value)).length) I L I1.env0 hr.hd un hns kept
    refine PySem.W.kla_codeExpr (wpAny_mono ((hbody _ _ s1 H1 E (hr.deeper _) hgd).run [] _ _ H1 Q J ht) ?_ fun e s' hq => hq)
    rintro v s' ⟨w', H', J', rv, q⟩
    exact ⟨w', H', J'.os, J'.bare, J'.base, J'.hok, rv, q⟩
  refine wpAny_call (codeAny_mono run fun r s' hq => ?_)
  match r, hq with
  | .error e, hq => exact tk e s' (XE.of_call I1 (fun _ _ _ h => h) hq)
  | .ok (.ret u), hq => exact I1.after hq
  | .ok .next, hq => exact False.elim hq
  | .ok .brk, hq => exact False.elim hq
  | .ok .cont, hq => exact False.elim hq
/-- the def that calls what it gets: TT, what it makes of the lambda's reading -/
def GiveW (X : Cx) (Ng : List Str) (x : Str) (sg : Scope) (g : Addr) (cdg : Value) (bg : List Stmt) (a : Str) (q : Str) (TT : (XK → Hp → VK → Prop) → Hp → VK → Prop) : Prop :=
  ∀ (f c' : Addr) (s : Shared) (H : Hp) (Q : VK) (tl : XK → Hp → VK → Prop),
    (∀ (W : WX) (pn : List (Addr × Obj)) (xe : Value → Shared → Prop) (p1 p2 : Pos), Takes ((hrdC X.prog X.w X.K X.mg X.base Ng x sg g cdg X.A X.stack s H).tr pn xe) W →
      PE ((hrdC X.prog X.w X.K X.mg X.base Ng x sg g cdg X.A X.stack s H).tr pn xe) (.Call (.Name a p1) [] [] p2) (tAct f c' q tl W)) →
    H c' = some (LamX.CodeO c' q) → TT tl H Q →
    ∃ t, PSs (hrdC X.prog X.w X.K X.mg X.base Ng x sg g cdg X.A X.stack s H) bg t ∧ t { nx := fun _ H' => Q .non H', rt := Q } (L2.start Ng [.ref f]) H
theorem pe_lamW {X : Cx} {Ts : List (Addr × Str)} {TT : (XK → Hp → VK → Prop) → Hp → VK → Prop} {x a : Str} {g c P : Addr} {k : Nat} {pg : Arguments} {bg : List Stmt} {sg : Scope} {dV kV doc pm cdv ct oc : Value} {an od : Option Addr} {osl : Array (Option Value)} {Ng : List Str}
    {params : Arguments} {body : Expr} {scope : Scope} {t : XK → TE} {p lpos pos : Pos} (hg : Gl X x) (hm : X.mg x = some (.ref g)) (hk : PySem.W.keepIn X.K (.ref g) = true)
    (lk : X.K.lookup g = some ⟨oc, od, .func (PySem.W.fnOf x x pg bg sg dV kV doc pm an cdv ct), osl⟩) (hcg : PySem.W.codeIn X.K cdv x = true) (hb : L2.Binds X.K (PySem.W.fnOf x x pg bg sg dV kV doc pm an cdv ct) [a] []) (Sg : FnScope Ng [a] sg) (hNg : Ng[0]? = some a) (hva : Vis sg a)
    (hG : GiveW X Ng x sg g cdv bg a (X.env.qual ++ "<lambda>") TT)
    (TB : LamX.TabB X.base X.mg c P) (hcode : X.env.code = .ref c) (hmT : (P, X.env.qual ++ "<lambda>") ∈ Ts) (hu : ∀ p ∈ Ts, p.1 = P → p.2 = X.env.qual ++ "<lambda>") (hr : Room (k + 2) X.A) (L : LamX.LamS X.env.scope scope) (hdef : defaultsOf params X.env = ([], []))
    (hbind : ∀ (q : Str) (cl : List (Str × Addr)) (pm cv ctv : Value), bindArgs (PySem.W.kla_fn "<lambda>" q params body scope cl pm cv ctv) ⟨[], []⟩ = pure [])
    (hgd : X.A.guards = some []) (hbody : ∀ (f c' : Addr) (A : Around) (outer : List PySem.Env) (s : Shared) (H : Hp) (E : XK), Room k (A.deeper (LamX.lamEnv X scope s.heap.objs.size f c')) → A.guards = some [] → PE (LamX.lamCx X A outer s H E scope f c') body (t E))
    (hdb : (x == ("__debug__" : Str)) = false) (hd : (a == ("__debug__" : Str)) = false) (hcd : (a == ("__classdict__" : Str)) = false) :
    PE X (.Call (.Name x p) [.Lambda params body scope lpos] [] pos) (LamX.tLam Ts TT t) := by
  constructor
  intro pins s σ H Q I ⟨hT, h⟩
  refine wpAny_Call_Name_kw (ld_glob I hg hm ?_ hdb)
  refine PySem.W.callWith_K (h₀ := X.base) I.ok.mod.kin hk ?_ (by rfl) (by rfl)
  show wpAny _ _ (spliced ((false, eval (.Lambda params body scope lpos) X.env) :: backTo pos (starEach [] X.env))) _ _ s
  refine Calls.spliced_cons (LamX.lam_make2 I TB hcode hmT hu hT hdef (L.has I.ok) ?_)
  intro f c' pm' ctv H1 s' I1 eN T1 hf hfn hfr hco
  refine Calls.spliced_nil ⟨I1.kIn, ?_⟩
  have bnd := hb s' [.ref f] I1.kIn rfl
  have run : codeAny (model X.prog X.w) X.A (.call (.ref g) ⟨[.ref f], []⟩) (CR C8.CX0 X.stack X.prog X.w H1 s' Q C8.E0) s' := by
    refine LamX.run_ofS (N := Ng) (ps := [a]) (us := [.ref f]) (vs := [.ref f]) lk hcg Sg hr I1.env0 bnd (.cons rfl .nil) rfl ?_
    intro hr'
    obtain ⟨t', ht', hq'⟩ := hG f c' s' H1 Q (fun E H' Q' => t E σ H' Q')
      (fun W pn xe p1 p2 tk => pe_actW (CXg := C8.CX0) (Eg := C8.E0) (Ng := Ng) (i := 0) I1 L hf hfn hfr (hbind _ _ _ _ _) tk hr' hgd (hbody f c') hNg rfl hva hd hcd) hco (h H1 eN T1)
    exact ⟨t', ht'.nox, hq'⟩
  refine wpAny_call (codeAny_mono run fun r s2 hq => ?_)
  match r, hq with
  | .error e, hq => exact (show False from hq).elim
  | .ok (.ret u), hq => exact I1.after hq
  | .ok .next, hq => exact False.elim hq
  | .ok .brk, hq => exact False.elim hq
  | .ok .cont, hq => exact False.elim hq
theorem gives_of {X : Cx} {Ts : List (Addr × Str)} {x a q : Str} {g : Addr} {bg : List Stmt} {sg : Scope} {cdv : Value} {Ng : List Str} {Tg : Nat → Bool} {wh : Addr → Hp → Lm1 → Ws} {F : Lm1 → (Rz → Prop) → Prop} (hN : Ng[0]? = some a)
    (hr : Room 2 X.A) (hb : ∀ (A : Around) (outer : List PySem.Env) (s : Shared) (H : Hp), Room 1 (hrdC X.prog X.w X.K X.mg X.base Ng x sg g cdv A outer s H).A → ∀ (B : Addr → Prop) (G : Hp) (f : Addr) (gp : Hp) (tA : WX → TE) (L : Lm1), ActOk (hrdC X.prog X.w X.K X.mg X.base Ng x sg g cdv A outer s H) Ts a f gp tA L →
      ∃ t, DSs (hrdT X.prog X.w X.K Ts X.mg X.base Ng x sg g cdv A outer s H B G) Tg bg t (wh f gp L))
    (hF : ∀ L Q, F L Q → ∀ f gp, wh f gp L { nx := fun _ => Q (.dat .non), rt := fun r _ => r.free = true ∧ Q r } (.dat (.fn f gp) :: List.replicate (Ng.length - 1) .emp)) :
    GiveW X Ng x sg g cdv bg a q (TTh X.K Ts F) := by
  intro f c' s H Q tl act hc ⟨G, L, Qr, R, hL, hFL, hk⟩
  -- the code object that was made is stable from now on
  have nG : ∀ ps, H c' ≠ some (.tbl ps) := fun ps z => by rw [hc] at z; unfold LamX.CodeO at z; cases z
  have ntc : Nt (LamX.CodeO c' q) := by unfold LamX.CodeO; exact nt_ext
  let G1 : Hp := fun b => if b = c' then some (LamX.CodeO c' q) else G b
  have g1c : G1 c' = some (LamX.CodeO c' q) := if_pos rfl
  have g1n : ∀ b, b ≠ c' → G1 b = G b := fun b hb => if_neg hb
  have old : ∀ u, G c' = some u → u = LamX.CodeO c' q := fun u hu => by
    by_cases n : Nt u
    · have := R.gh _ _ hu n
      rw [hc] at this; exact (Option.some.inj this).symm
    · obtain ⟨ps, hps⟩ := Classical.not_forall.mp n
      have hps : u = .tbl ps := Classical.not_not.mp hps
      subst hps
      obtain ⟨_, _, _, ps', hH, _⟩ := R.tb _ _ hu
      exact absurd hH (nG ps')
  have e1 : Ex G G1 := fun b u hu _ => by
    by_cases hb : b = c'
    · subst hb; rw [old u hu]; exact g1c
    · rw [g1n b hb]; exact hu
  have gh1 : Ex G1 H := fun b u hu n => by
    by_cases hb : b = c'
    · subst hb; rw [g1c] at hu; cases hu; exact hc
    · rw [g1n b hb] at hu; exact R.gh b u hu n
  have tb1 : Tb G1 H := fun b ps hu => by
    by_cases hb : b = c'
    · subst hb; rw [g1c] at hu; unfold LamX.CodeO at hu; cases hu
    · rw [g1n b hb] at hu; exact R.tb b ps hu
  have S1 : Stp (All H) G H G1 H := ⟨e1, fun b ps hu => by
      by_cases hb : b = c'
      · subst hb; have := old _ hu; unfold LamX.CodeO at this; cases this
      · rw [g1n b hb]; exact hu, fun b ps hu => by
      by_cases hb : b = c'
      · subst hb; rw [g1c] at hu; unfold LamX.CodeO at hu; cases hu
      · rw [g1n b hb] at hu; exact hu, fun _ _ _ h _ => h, fun b o hb ho w => by
      by_cases hb' : b = c'
      · subst hb'; rw [hc] at ho; cases ho; unfold LamX.CodeO at w; exact w.elim
      · exact g1n b hb'⟩
  have act2 : ActOk (hrdC X.prog X.w X.K X.mg X.base Ng x sg g cdv X.A X.stack s H) Ts a f G1 (tAct f c' q tl) L :=
    ⟨fun W pn xe po tk B0 G0 H0 Ξ lk p1 p2 => ⟨act W pn xe p1 p2 tk, we_act g1c (hL G1 e1) lk⟩, fun W σ H Q h => h⟩
  obtain ⟨t, ht⟩ := hb X.A X.stack s H (hr.deeper _) (All H) G1 f G1 (tAct f c' q tl) L act2
  have hlen : 0 < Ng.length := (List.getElem?_eq_some_iff.mp hN).1
  have R1 : Rep ⟨X.K, Ts, All H, G1, H⟩ (All H) G1 H (L2.start Ng [.ref f]) (.dat (.fn f G1) :: List.replicate (Ng.length - 1) .emp) := by
    refine ⟨gh1, tb1, ⟨fun _ h => h, .refl, fun p hp => S1.t _ _ (R.z.m p hp), fun a ps h => R.z.m2 a ps (S1.u a ps h)⟩, fun _ h => h, ?_, fun i d h => ?_, fun i o h => ?_, fun i j o u p h => ?_⟩
    · unfold L2.start; simp
    · match i, h with
      | 0, h => cases h; exact ⟨_, rfl, .fn (Ex.refl _)⟩
      | i + 1, h => rw [List.getElem?_cons_succ, List.getElem?_replicate] at h; split at h <;> cases h
    · match i, h with
      | 0, h => cases h
      | i + 1, h => rw [List.getElem?_cons_succ, List.getElem?_replicate] at h; split at h <;> cases h
    · match i, h with
      | 0, h => cases h
      | i + 1, h => rw [List.getElem?_cons_succ, List.getElem?_replicate] at h; split at h <;> cases h
  refine ⟨t, ht.pss, ht.ws (All H) G1 H _ (L2.start Ng [.ref f]) _ _ _ R1 (fun _ _ => rfl) (hF L Qr hFL f G1) (fun G' H' σ' ρ' S' R' P' q' => ?_) (fun G' H' σ' ρ' v r S' R' P' rr ⟨hf, q'⟩ => ?_) (fun _ _ _ _ _ _ _ z => z.elim) (fun _ _ _ _ _ _ _ z => z.elim)⟩
  · have S2 := S1.trans S'
    exact hk .non G' H' (.dat .non) S2 ⟨R'.gh, R'.tb, R.z.step S2, R'.bh, rfl, fun i d h => by simp at h, fun i o h => by simp at h, fun i j o u p h => by simp at h⟩ (.dat .non) rfl q'
  · have S2 := S1.trans S'
    exact hk v G' H' r S2 ⟨R'.gh, R'.tb, R.z.step S2, R'.bh, rfl, fun i d h => by simp at h, fun i o h => by simp at h, fun i j o u p h => by simp at h⟩ (RR.bare (K := ⟨X.K, Ts, All H, G1, H⟩) (K' := ⟨X.K, Ts, All H, G, H⟩) rfl (fun _ h => h) rr hf) hf q'
/-- x(lambda: body) -/
def wLam (F : Lm1 → (Rz → Prop) → Prop) (wl : Xp → We) : We := fun ρ Q => F (fun Qr Ξ => wl Ξ (hide ρ) fun r _ => r.free = true ∧ Qr r) (fun r => Q r ρ)
theorem tabs_of {K : KT} {B : Addr → Prop} {G H : Hp} {σ : L2.St} {ρ : Sl} (R : Rep K B G H σ ρ) : LamX.Tabs K.T H := fun p hp => by
  obtain ⟨q, t, e, h⟩ := R.tb _ _ (R.z.m p hp)
  have e2 : q = p.2 := by
    have := congrArg (fun z => z[0]?) e
    simp at this
    exact this.1.symm
  rw [e2] at h; exact h
theorem we_lam {K : KT} {F : Lm1 → (Rz → Prop) → Prop} {wl : Xp → We} {t : XK → TE} (hwe : ∀ (E : XK) (B0 : Addr → Prop) (G0 H0 : Hp) (Ξ : Xp), Lk K.F B0 G0 H0 Ξ (fun cls d _ H' => E cls d H') → WE ⟨K.F, K.T, B0, G0, H0⟩ (t E) (wl Ξ)) :
    WE K (LamX.tLam K.T (TTh K.F K.T F) t) (wLam F wl) := fun B G H σ ρ Q QV R q k => by
  refine ⟨tabs_of R, fun H1 eN T1 => ?_⟩
  -- behind the making of the lambda
  have gh1 : Ex G H1 := fun b u hu n => eN b u (R.gh b u hu n) n
  have tb1 : Tb G H1 := fun b ps hu => by
    obtain ⟨p, hp, e⟩ := R.z.m2 b ps hu
    subst e
    have m := R.z.m p hp
    rw [hu] at m
    cases m
    exact ⟨p.2, 0, rfl, T1 p hp⟩
  have S1 : Stp (All H) G H G H1 := ⟨Ex.refl G, fun _ _ h => h, fun _ _ h => h, fun a o _ h n => eN a o h n, fun _ _ _ _ _ => rfl⟩
  have b1 : ∀ a, All H a → Tr H1 a := fun a ⟨o, e, n⟩ => ⟨o, eN a o e n, n⟩
  have R1 := R.over S1 b1 gh1 tb1
  obtain ⟨G', L, Qr, hF, ha, hb, hc⟩ : ∃ G' L Qr, G' = G ∧ (L = fun Qr Ξ => wl Ξ (hide ρ) fun r _ => r.free = true ∧ Qr r) ∧ (Qr = fun r => Q r ρ) ∧ F L Qr := ⟨_, _, _, rfl, rfl, rfl, q⟩
  subst hF
  refine ⟨G', L, Qr, ⟨gh1, tb1, R1.z.new, fun _ h => h, rfl, fun i d h => by simp at h, fun i o h => by simp at h, fun i j o u p h => by simp at h⟩, fun g eg K' B2 G2 H2 Qr' Ξ QV' E hKF hKT R2 eg2 hL hk lk2 => ?_, hc, fun v G2 H2 r S R2 rr hf q2 => ?_⟩
  · -- the lambda runs
    subst ha
    have RH : Rep ⟨K.F, K.T, All H2, G2, H2⟩ (All H2) G2 H2 σ (hide ρ) := by
      refine ⟨R2.gh, R2.tb, ⟨fun _ h => h, .refl, fun p hp => ?_, fun a ps h => ?_⟩, fun _ h => h, by unfold DL.hide; rw [List.length_map]; exact R.len, fun i d h => ?_, fun i o h => ?_, fun i j o u p h => ?_⟩
      · exact R2.z.m p (by rw [hKT]; exact hp)
      · obtain ⟨p, hp, e⟩ := R2.z.m2 a ps h
        exact ⟨p, by rw [← hKT]; exact hp, e⟩
      · rcases hide_get h with ⟨_, _, z⟩ | ⟨e, _⟩
        · cases z
        · obtain ⟨v, h1, h2⟩ := R.dat i d e
          exact ⟨v, h1, h2.mono (eg.trans eg2)⟩
      · rcases hide_get h with ⟨_, _, z⟩ | ⟨_, z⟩
        · cases z
        · exact absurd rfl (z o)
      · rcases hide_get h with ⟨_, _, z⟩ | ⟨_, z⟩
        · cases z
        · exact absurd rfl (z o)
    refine hwe E (All H2) G2 H2 Ξ lk2 (All H2) G2 H2 σ (hide ρ) _ QV' RH hL fun v G3 H3 ρ3 r S3 R3 rr3 ⟨hf, q3⟩ => ?_
    exact hk v G3 H3 r S3 ⟨R3.gh, R3.tb, R3.z, R3.bh, rfl, fun i d h => by simp at h, fun i o h => by simp at h, fun i j o u p h => by simp at h⟩ (RR.bare (K := ⟨K.F, K.T, All H2, G2, H2⟩) rfl (fun _ h => h) rr3 hf) hf q3
  · subst hb
    have R3 := R1.over S R2.bh R2.gh R2.tb
    exact k v G2 H2 ρ r ((S1.trans (S.weak b1)).weak R.bh) R3 (RR.beside (K := ⟨K.F, K.T, All H1, G', H1⟩) (K' := K) rfl R1 rr) q2
/-- x(lambda: body), by the def's promise -/
theorem de_lam {X : CxT} {x a : Str} {c P : Addr} {k : Nat} {params : Arguments} {body : Expr} {scope : Scope} {t : XK → TE} {wl : Xp → We} {F : Lm1 → (Rz → Prop) → Prop} {p lpos pos : Pos} (Hd : Hrd X.prog X.w X.cx.K X.T X.mg X.base x a F) (hg : Gl X x)
    (TB : LamX.TabB X.base X.mg c P) (hcode : X.env.code = .ref c) (hmT : (P, X.env.qual ++ "<lambda>") ∈ X.T) (hu : ∀ p ∈ X.T, p.1 = P → p.2 = X.env.qual ++ "<lambda>") (hr : Room (k + 2) X.A) (hgd : X.A.guards = some []) (L : LamX.LamS X.env.scope scope) (hdef : defaultsOf params X.env = ([], []))
    (hbind : ∀ (q : Str) (cl : List (Str × Addr)) (pm cv ctv : Value), bindArgs (PySem.W.kla_fn "<lambda>" q params body scope cl pm cv ctv) ⟨[], []⟩ = pure [])
    (hbody : ∀ (f c' : Addr) (A : Around) (outer : List PySem.Env) (s : Shared) (H : Hp) (E : XK) (B0 : Addr → Prop) (G0 H0 : Hp) (Ξ : Xp) (lk : Lk X.cx.K B0 G0 H0 Ξ (fun cls d _ H' => E cls d H')), Room k (A.deeper (LamX.lamEnv X.cx scope s.heap.objs.size f c')) → A.guards = some [] →
      DE (lamT X A outer s H E scope f c' B0 G0 H0 Ξ lk) body (t E) (wl Ξ))
    (hdb : (x == ("__debug__" : Str)) = false := by decide) (hd : (a == ("__debug__" : Str)) = false := by decide) (hcd : (a == ("__classdict__" : Str)) = false := by decide) :
    DE X (.Call (.Name x p) [.Lambda params body scope lpos] [] pos) (LamX.tLam X.T (TTh X.cx.K X.T F) t) (wLam F wl) := by
  obtain ⟨g, pg, bg, sg, dV, kV, doc, pm, cdv, ct, oc, an, od, osl, Ng, Tg, wh, hm, hk, lk, hcg, hb, Sg, hNg, hva, hH, hF⟩ := Hd.ex
  refine ⟨pe_lamW hg hm hk lk hcg hb Sg hNg hva (gives_of hNg (hr.mono (by omega)) hH hF) TB hcode hmT hu hr L hdef hbind hgd (fun f c' A outer s H E hr2 hg2 => (hbody f c' A outer s H E (fun _ => False) (fun _ => none) (fun _ => none) noX lk_no hr2 hg2).pe) hdb hd hcd, we_lam (K := X.K) fun E B0 G0 H0 Ξ lk => ?_⟩
  exact (hbody 0 0 (X.A.deeper X.env) [] X.s_0 X.H_0 E B0 G0 H0 Ξ lk ((hr.deeper _).deeper _) hgd).we
end DL

set_option Elab.async false
set_option linter.all false
set_option maxRecDepth 100000
set_option maxHeartbeats 2000000
namespace DL
open PySem L2
/-! ### calls by the names of the parameters -/
structure DK (X : CxT) (kws : List Keyword) (tk : TA) (wk : Wa) : Prop where
  pk : PK X kws tk
  wa : WAa X.K tk wk
section
variable {X : CxT} {K : KT} {e : Expr} {te : TE} {we : We} {kws : List Keyword} {t : TA} {w : Wa} {nm : Option Str} {kpos p pos : Pos} {x : Str}
theorem dk_nil : DK X [] tNil wNil := ⟨pk_nil, (da_nil (X := X)).wa⟩
theorem dk_cons (he : DE X e te we) (hr : DK X kws t w) : DK X (⟨nm, e, kpos⟩ :: kws) (tCons te t) (wCons we w) := ⟨pk_cons he.pe hr.pk, wa_cons he.we hr.wa⟩
def tPick (pk : List Nat) (t : TA) : TA := fun σ H Q => t σ H fun zs H1 => Q (pick pk zs) H1
def wPick (pk : List Nat) (w : Wa) : Wa := fun ρ Q => w ρ fun rs ρ1 => Q (pick pk rs) ρ1
theorem rrs_at {B : Addr → Prop} {G H : Hp} {σ : L2.St} {ρ : Sl} : ∀ {vs : List V} {rs : List Rz} (i : Nat), RRs K B G H σ ρ vs rs → (∃ v r, vs[i]? = some v ∧ rs[i]? = some r ∧ RR K B G H σ ρ v r ∧ r.cold = true) ∨ (vs[i]? = none ∧ rs[i]? = none)
  | _, _, _, .nil => .inr ⟨by simp, by simp⟩
  | _, _, 0, .cons h c _ => .inl ⟨_, _, rfl, rfl, h, c⟩
  | _, _, i + 1, .cons _ _ t => by simpa using rrs_at i t
theorem rrs_pick {B : Addr → Prop} {G H : Hp} {σ : L2.St} {ρ : Sl} {vs : List V} {rs : List Rz} (h : RRs K B G H σ ρ vs rs) : ∀ pk : List Nat, RRs K B G H σ ρ (pick pk vs) (pick pk rs)
  | [] => .nil
  | i :: pk => by
    unfold pick
    rcases rrs_at i h with ⟨v, r, e1, e2, h1, h2⟩ | ⟨e1, e2⟩
    · rw [List.filterMap_cons_some e1, List.filterMap_cons_some e2]; exact .cons h1 h2 (rrs_pick h pk)
    · rw [List.filterMap_cons_none e1, List.filterMap_cons_none e2]; exact rrs_pick h pk
theorem wa_pick {pk : List Nat} (h : WAa K t w) : WAa K (tPick pk t) (wPick pk w) := fun B G H σ ρ Q QV R q k =>
  h B G H σ ρ _ _ R q fun vs G1 H1 ρ1 rs S1 R1 rr q1 => k _ G1 H1 ρ1 _ S1 R1 (rrs_pick rr pk) q1
theorem vals_pick {vs : List V} {us : List Value} (h : Vals vs us) : ∀ pk : List Nat, Vals (pick pk vs) (pick pk us)
  | [] => .nil
  | i :: pk => by
    unfold pick
    have at_ : ∀ {vs : List V} {us : List Value} (i : Nat), Vals vs us → (∃ v u, vs[i]? = some v ∧ us[i]? = some u ∧ L2.RelV v u) ∨ (vs[i]? = none ∧ us[i]? = none) := by
      intro vs us i h
      induction h generalizing i with
      | nil => exact .inr ⟨by simp, by simp⟩
      | cons r _ ih =>
        cases i with
        | zero => exact .inl ⟨_, _, rfl, rfl, r⟩
        | succ i => simpa using ih i
    rcases at_ i h with ⟨v, u, e1, e2, h1⟩ | ⟨e1, e2⟩
    · rw [List.filterMap_cons_some e1, List.filterMap_cons_some e2]; exact .cons h1 (vals_pick h pk)
    · rw [List.filterMap_cons_none e1, List.filterMap_cons_none e2]; exact vals_pick h pk
theorem de_calKw {KF : PySem.W.Frag} {Ts : List (Addr × Str)} {W : WX} {Ξ : Xp} {k n : Nat} {ps ks : List Str} {pk : List Nat} {F : Fd} (C : CalW X.prog X.w KF Ts X.mg X.base k x ps ks pk F) (hr : Room k X.A) (hgd : X.A.guards = some []) (ha : DK X kws t w) (hW : Takes X.cx W) (lk : Lk X.cx.K X.B0 X.G0 X.H0 Ξ W) (hkn : pk.all (fun i => decide (i < ks.length)) = true) (hK : X.cx.K = KF := by rfl) (hT : X.T = Ts := by rfl) (hg : Gl X x := by rfl)
    (hall : (backToKw pos (keywordEach kws X.env)).all (·.1.isSome) = true := by rfl) (hks : (backToKw pos (keywordEach kws X.env)).filterMap (·.1) = ks := by rfl) (hlen : kws.length = ks.length := by rfl) (hn : pk.length = n := by rfl) (hps : ps.length = n := by rfl)
    (hpl : ((backTo pos (starEach [] X.env)).any (·.1) || (backToKw pos (keywordEach kws X.env)).any (·.1.isNone)) = false := by rfl) (hdb : (x == ("__debug__" : Str)) = false := by decide) :
    DE X (.Call (.Name x p) [] kws pos) (tCallG KF Ts n F W (tPick pk fun σ H Q => t σ H fun zs H1 => zs.length = ks.length ∧ Q zs H1)) (wCall n F Ξ (wPick pk fun ρ Q => w ρ fun rs ρ1 => rs.length = ks.length ∧ Q rs ρ1)) := by
  subst hK hT
  obtain ⟨f, fd, hm, hk, hb, F0⟩ := C.ex
  have hw : WAa X.K (fun σ H Q => t σ H fun zs H1 => zs.length = ks.length ∧ Q zs H1) (fun ρ Q => w ρ fun rs ρ1 => rs.length = ks.length ∧ Q rs ρ1) := fun B G H σ ρ Q QV R q k =>
    ha.wa B G H σ ρ _ _ R q fun vs G1 H1 ρ1 rs S1 R1 rr ⟨l, q1⟩ => ⟨by rw [rrs_len rr]; exact l, k _ G1 H1 ρ1 _ S1 R1 rr q1⟩
  refine ⟨⟨fun pins s σ H Q I h => ?_⟩, we_call (K := X.K) lk (wa_pick hw)⟩
  refine wpAny_Call_Name_kw (ld_glob I hg hm ?_ hdb)
  refine PySem.W.callWith_KW0 (h₀ := X.base) I.ok.mod.kin hk hall (thn (ha.pk.run pos pins s σ H _ I h) fun ws s2 ⟨zs, H2, I2, rz, hz, q2⟩ => ⟨I2.kIn, ?_⟩) hpl
  rw [hks]
  obtain ⟨B, G, as, Q', Ξ', hl, R, hF, hk', hx⟩ := q2
  have hb' := hb s2 ws (by rw [← rz.length]; exact hz)
  refine wpAny_call (codeAny_mono (F0.run X.A X.stack s2 H2 ⟨[], ks.zip ws⟩ _ _ B G as Q' Ξ' Q (fun cls d H' => W cls d σ H') hr hgd I2.env0 hb' (vals_pick rz pk) (by rw [hl]; exact hps.symm) R hF hk' hx) fun r s' hq => ?_)
  match r, hq with
  | .ok (.ret u), hq => exact I2.after hq
  | .ok .next, hq => exact False.elim hq
  | .ok .brk, hq => exact False.elim hq
  | .ok .cont, hq => exact False.elim hq
  | .error e, hq => exact hW e s' (XE.of_call I2 (fun _ _ _ h => h) hq)
end
end DL
namespace DL
open PySem L2
theorem de_constK {X : CxT} {KF : PySem.W.Frag} {mg : Str → Option Value} {x : Str} {d : PD} {pos : Pos} (C : Const KF mg x d) (hK : X.cx.K = KF := by rfl) (hM : X.cx.mg = mg := by rfl) (hg : Gl X x := by rfl) (hd : (x == ("__debug__" : Str)) = false := by decide) : DE X (.Name x pos) (tK KF d) (wC d) := by
  subst hK hM
  exact de_const C hg hd
end DL

set_option Elab.async false
set_option linter.all false
set_option maxRecDepth 100000
set_option maxHeartbeats 2000000
namespace DL
open PySem L2
/-! ### sorted(xs), xs a list of alike data -/
/-- what sorted asks of its items -/
def SortOk (es : List PyData) : Prop := PySem.W.AllAlike es ∧ PySem.W.Sortable es ∧ ∀ e ∈ es, e.depth ≤ 60
def leD : PD → PD → Bool := PySem.W.dataLe false PD.py
def rSortD (K : PySem.W.Frag) : List V → Hp → VK → Prop := fun vs H Q => ∃ (a : Addr) (bs : List (V × PD)), vs = [V.ref a] ∧ SqL K H a (bs.map (·.1)) ∧ (∀ b ∈ bs, Dp K H b.1 b.2.py) ∧ SortOk (bs.map fun b => b.2.py) ∧
  ∀ p : Addr, H p = none → Q (.ref p) (upd H p (.lst ((bs.mergeSort (PySem.W.dataLe false fun b => b.2.py)).map (·.1))))
section
variable {X : CxT}
theorem RpAll.each {K : PySem.W.Frag} {G : Hp} : ∀ {us : List V} {ds : List PD}, RpAll K G us ds → us.length = ds.length ∧ ∀ b ∈ us.zip ds, Rp K G b.1 b.2
  | _, _, .nil => ⟨rfl, fun b hb => nomatch hb⟩
  | _, _, .cons h t => by
    obtain ⟨h1, h2⟩ := RpAll.each t
    refine ⟨congrArg (· + 1) h1, fun b hb => ?_⟩
    rcases List.mem_cons.mp hb with e | hb
    · subst e; exact h
    · exact h2 b hb
def dSorted : Dn := fun ds k => match ds with
  | [.lst xs] => (∀ x ∈ xs, x.plain = true) ∧ SortOk (xs.map PD.py) ∧ k (.own (.lst (xs.mergeSort leD)))
  | _ => False
end
/-! ### a tuple over and over -/
theorem tup_same (l : Addr) (its : Array Value) (n : Nat) (dx : Option Addr) (so : Array (Option Value)) (u : Tok) :
    Meets (Builtin.«tuple.__mul__» ⟨[.ref l, .int 1 u], []⟩) (fun _ R s => s.heap.get? l = some { cls := .type "tuple", dict := dx, data := .seq its n, slots := so } ∧ R (.ok (.ret (Value.ref l))) s) :=
  .of_wp fun prog w A R s h => by
    obtain ⟨hp, gn, db, tk, os⟩ := s
    obtain ⟨hl, h⟩ := h
    have f1 := AutoSeq1.idx_int
    have one : (its.isEmpty || (1 : Int) == 1) = true := by rw [Bool.or_eq_true]; exact .inr rfl
    wp_walk using wpAny_loadPart' hl
    exact ⟨_, rfl, h⟩
theorem tup_none (l : Addr) (its : Array Value) (n : Nat) (dx : Option Addr) (so : Array (Option Value)) (x : Int) (u : Tok) (b0 : (decide (x < -(2 ^ 63)) || decide (x ≥ 2 ^ 63)) = false) (b1 : (its.isEmpty || x == 1) = false) (b2 : (decide (x ≤ 0) || its.isEmpty) = true) :
    Meets (Builtin.«tuple.__mul__» ⟨[.ref l, .int x u], []⟩) (fun _ R s => s.heap.get? l = some { cls := .type "tuple", dict := dx, data := .seq its n, slots := so } ∧
      R (.ok (.ret (Value.ref s.heap.objs.size))) { s with heap := s.heap.push { cls := Value.type "tuple", data := Data.seq #[] }, toks := s.toks }) :=
  .of_wp fun prog w A R s h => by
    obtain ⟨hp, gn, db, tk, os⟩ := s
    obtain ⟨hl, h⟩ := h
    have f1 := AutoSeq1.idx_int
    wp_walk using wpAny_loadPart' hl
    repeat (first
      | (refine wpAny_ite_false (decide_eq_false (by rw [b0]; exact nofun)) ?_; wp_walk using wpAny_loadPart' hl)
      | (refine wpAny_ite_false (decide_eq_false (by rw [b1]; exact nofun)) ?_; wp_walk using wpAny_loadPart' hl)
      | (refine wpAny_ite_true (decide_eq_true b2) ?_; wp_walk using wpAny_loadPart' hl))
    exact ⟨_, rfl, h⟩
def rTm (K : PySem.W.Frag) : R2 := fun x y H Q => ∃ l k xs, x = .ref l ∧ y = .int k ∧ SqT K H l xs ∧ xs ≠ [] ∧ -1000 ≤ k ∧ k ≤ 1000 ∧ xs.length ≤ 1000 ∧ (k = 1 → Q (.ref l) H) ∧ (k ≠ 1 → ∀ p, H p = none → Q (.ref p) (upd H p (.tup (List.replicate k.toNat xs).flatten)))
theorem op_tm {X : Cx} : OpR X (binaryOp .Mult) (rTm X.K) := by
  intro pins s σ H x y v u Q I rx ry h
  obtain ⟨l, k, xs, rfl, rfl, hT, ne, k0, k1, hz, q1, q2⟩ := h
  by_cases big : 2 ≤ k
  · exact op_repT pins s σ H _ _ v u Q I rx ry ⟨l, k, xs, rfl, rfl, hT, ne, big, k1, hz, q2 (by omega)⟩
  cases rx
  obtain ⟨t, rfl⟩ := ry
  obtain ⟨its, r, ⟨⟨cls, dx, data, so⟩, ho, hc, n, hd⟩, hs⟩ := I.tuple hT
  simp only at hc hd
  subst hc hd
  by_cases one : k = 1
  · subst one
    refine wpAny_binaryOp_repeat_ref (U := "int") (T := "tuple") (by decide) ⟨_, ho, rfl⟩ (fun s2 => typeIs_int s2 1 t) noFill_tuple_mul F.fills_int_mul F.slot_int_rmul repeat_tuple F.slot_int_index.lookup
      (call_meets F.slot_int_rmul (typeIs_int s 1 t) F.entry_int_rmul (F.args_int_rmul_2 _ _) (int_rmul_tuple 1 t l its.toArray n dx so)
        ⟨ho, rfl, ⟨_, ho, rfl⟩, call_meets F.slot_tuple_mul ⟨_, ho, rfl⟩ F.entry_tuple_mul (F.args_tuple_mul_2 _ _) (tup_same l its.toArray n dx so t) ⟨ho, ?_⟩⟩)
    exact ⟨.ref l, H, I, rfl, q1 rfl⟩
  · have low : k ≤ 0 := by omega
    have full : its.toArray.isEmpty = false := by
      cases its with
      | nil =>
        have := r.length
        exact absurd (List.eq_nil_of_length_eq_zero this) ne
      | cons a b => rfl
    have b0 : (decide (k < -(2 ^ 63)) || decide (k ≥ 2 ^ 63)) = false := by
      rw [decide_eq_false (by omega), decide_eq_false (by omega)]; rfl
    have b1 : (its.toArray.isEmpty || k == 1) = false := by
      rw [full, Bool.false_or]
      exact beq_eq_false_iff_ne.mpr one
    have b2 : (decide (k ≤ 0) || its.toArray.isEmpty) = true := by
      rw [decide_eq_true low]; rfl
    have kz : k.toNat = 0 := by omega
    have q3 := q2 one
    rw [kz] at q3
    refine wpAny_binaryOp_repeat_ref (U := "int") (T := "tuple") (by decide) ⟨_, ho, rfl⟩ (fun s2 => typeIs_int s2 k t) noFill_tuple_mul F.fills_int_mul F.slot_int_rmul repeat_tuple F.slot_int_index.lookup
      (call_meets F.slot_int_rmul (typeIs_int s k t) F.entry_int_rmul (F.args_int_rmul_2 _ _) (int_rmul_tuple k t l its.toArray n dx so)
        ⟨ho, rfl, ⟨_, ho, rfl⟩, call_meets F.slot_tuple_mul ⟨_, ho, rfl⟩ F.entry_tuple_mul (F.args_tuple_mul_2 _ _) (tup_none l its.toArray n dx so k t b0 b1 b2) ⟨ho, ?_⟩⟩)
    exact ⟨.ref s.heap.objs.size, upd H s.heap.objs.size (.tup []), I.laid (t' := s.toks) (o := .tup []) (fun _ _ z => Heap.get?_push_of_some _ z) (Nat.le_refl _) ⟨Nat.zero_le _, [], .nil, PyProof.Rows.IsTup.new _ _⟩, rfl, q3 _ (I.hok.fresh (Nat.le_refl _))⟩
theorem RpAll.plus {K : PySem.W.Frag} {G : Hp} : ∀ {us vs : List V} {ds es : List PD}, RpAll K G us ds → RpAll K G vs es → RpAll K G (us ++ vs) (ds ++ es)
  | _, _, _, _, .nil, h => h
  | _, _, _, _, .cons a b, h => .cons a (RpAll.plus b h)
theorem RpAll.times {K : PySem.W.Frag} {G : Hp} {us : List V} {ds : List PD} (h : RpAll K G us ds) : ∀ n : Nat, RpAll K G (List.replicate n us).flatten (List.replicate n ds).flatten
  | 0 => .nil
  | n + 1 => by
    rw [List.replicate_succ, List.replicate_succ, List.flatten_cons, List.flatten_cons]
    exact RpAll.plus h (RpAll.times h n)
def dTm : D2 := fun x y k => match x, y with
  | .tup xs, .int n => xs ≠ [] ∧ (-1000 ≤ n ∧ n ≤ 1000) ∧ xs.length ≤ 1000 ∧ k (.dat (.tup (List.replicate n.toNat xs).flatten))
  | _, _ => False
theorem ok2_tm {K : KT} : Ok2 K (rTm K.F) dTm := by
  intro B G H σ ρ x y dx dy Q QV R vx vy q k
  match dx, dy, vx, vy, q with
  | .tup ds, .int n, vx, vy, ⟨ne, ⟨n0, n1⟩, hz, q⟩ =>
    have w := vx.tupR
    obtain ⟨a, us, rfl, ha, ra⟩ := vx.tup R.gh
    have hl := (RpAll.each ra).1
    refine ⟨a, n, us, rfl, vy.int, ha, fun e => ne (by rw [e] at hl; exact List.eq_nil_of_length_eq_zero hl.symm), n0, n1, by omega, fun e => ?_, fun _ p hp => k.tup R hp (ra.times n.toNat) q⟩
    subst e
    have : (List.replicate (1 : Int).toNat ds).flatten = ds := by simp
    rw [this] at q
    exact k.dat R w q
section
variable {X : CxT}
theorem de_tm {a b : Expr} {pos : Pos} {ta tb : TE} {wa wb : We} (ha : DE X a ta wa) (hb : DE X b tb wb) : DE X (.BinOp a .Mult b pos) (tOp (rTm X.cx.K) ta tb) (wBin dTm wa wb) := ⟨pe_op op_tm ha.pe hb.pe, we_bin ok2_tm ha.we hb.we⟩
end
end DL

set_option Elab.async false
set_option linter.all false
set_option maxRecDepth 100000
set_option maxHeartbeats 2000000
namespace DL
open PySem L2 PySem.Spec PyProof.Rows
/-! ### zip of a list or a tuple with a list or a tuple (true: a list) -/
def SqX (K : PySem.W.Frag) (l : Bool) (H : Hp) (a : Addr) (xs : List V) : Prop := match l with
  | true => SqL K H a xs
  | false => SqT K H a xs
def ItX (l : Bool) (h : Heap) (it a : Addr) (i : Nat) : Prop := match l with
  | true => h.IsListIter it a i
  | false => h.IsTupleIter it a i
def SeqX (l : Bool) (h : Heap) (a : Addr) (its : Array Value) : Prop := match l with
  | true => h.IsList a its
  | false => h.IsTuple a its
def objX (l : Bool) (a : Addr) : Obj := match l with
  | true => { cls := .type "list_iterator", data := .fields #[.ref a, .int 0 0] }
  | false => { cls := .type "tuple_iterator", data := .fields #[.ref a, .int 0 0] }
theorem beg_x (l : Bool) (a : Addr) (its : Array Value) : Begins (.ref a) (objX l a) fun h => SeqX l h a its := match l with
  | true => begins_list a its
  | false => begins_tuple a its
theorem it_x {l : Bool} {h : Heap} {it a : Addr} (e : h.get? it = some (objX l a)) : ItX l h it a 0 := match l, e with
  | true, e => ⟨_, e, rfl, rfl⟩
  | false, e => ⟨_, e, rfl, rfl⟩
theorem ItX.moved {l : Bool} {h h' : Heap} {it a : Addr} {i : Nat} (s : ItX l h it a i) (k : ∀ o, h.get? it = some o → h'.get? it = some o) : ItX l h' it a i := match l, s with
  | true, s => Heap.IsListIter.at s k
  | false, s => Heap.IsTupleIter.at s k
theorem ItX.live {l : Bool} {h : Heap} {it a : Addr} {i : Nat} (s : ItX l h it a i) : ∃ o, h.get? it = some o ∧ ∀ v, o.data ≠ .cell v := match l, s with
  | true, ⟨o, e, _, d⟩ => ⟨o, e, fun v q => by rw [d] at q; cases q⟩
  | false, ⟨o, e, _, d⟩ => ⟨o, e, fun v q => by rw [d] at q; cases q⟩
theorem draw_x {prog : Program} {w : World} {A : Around} (hh : A.handled = none) (l : Bool) (it a : Addr) (hne : a ≠ it) (its : Array Value) :
    Draws prog w A it [it, a] its.size (fun i v => its[i]? = some v) (fun i h => ItX l h it a i ∧ SeqX l h a its) := match l with
  | true => Draws.list hh it a hne its
  | false => Draws.tuple hh it a hne its
theorem draw_xe {prog : Program} {w : World} {A : Around} (hh : A.handled = none) (l : Bool) (it a : Addr) (its : Array Value) (i : Nat) (hi : its[i]? = none) :
    Draws prog w A it [it, a] i (fun _ _ => True) (fun j h => j = i ∧ ItX l h it a i ∧ SeqX l h a its) where
  live := fun _ _ st => let ⟨o, ho, _⟩ := st.2.1.live; ⟨o, ho⟩
  frame := fun _ _ _ st hk => ⟨st.1, st.2.1.moved fun o e => hk it (by simp) o e, match l, st.2.2 with
    | true, z => Heap.IsList.at z fun o e => hk a (by simp) o e
    | false, z => Heap.IsTuple.at z fun o e => hk a (by simp) o e⟩
  item := fun j s Q E hj st hQ => absurd st.1 (by omega)
  done := fun s Q E st hE => match l, st.2 with
    | true, st => wpAny_nextOf_list_end hh st.1 st.2 hi hE
    | false, st => wpAny_nextOf_tuple_end hh st.1 st.2 hi hE
theorem SqX.seq {X : Cx} {pins : List (Addr × Obj)} {σ : L2.St} {H : Hp} {s : Shared} {l : Bool} {a : Addr} {xs : List V} (I : Inv X pins σ H s) (h : SqX X.K l H a xs) : ∃ its : List Value, Vals xs its ∧ SeqX l s.heap a its.toArray ∧ a < s.heap.objs.size := match l, h with
  | true, h => let ⟨its, rv, p, _⟩ := I.list h; ⟨its, rv, p.isList, p.lt⟩
  | false, h => let ⟨its, rv, p, _⟩ := I.tuple h; ⟨its, rv, p, by obtain ⟨_, q, _⟩ := id p; exact Heap.lt_size q⟩
theorem SqX.inj {X : Cx} {pins : List (Addr × Obj)} {σ : L2.St} {H : Hp} {s : Shared} {l : Bool} {a : Addr} {xs ys : List V} (I : Inv X pins σ H s) (h : SqX X.K l H a xs) (h' : SqX X.K l H a ys) : xs = ys := match l, h, h' with
  | true, h, h' => I.list_inj h h'
  | false, h, h' => I.tuple_inj h h'
def ItzM (K : PySem.W.Frag) (l l' : Bool) (a b : Addr) : It :=
  ⟨fun i H => ∃ (xs ys : List V) (x y : V), SqX K l H a xs ∧ SqX K l' H b ys ∧ xs[i]? = some x ∧ ys[i]? = some y,
    fun i H v H' => ∃ t x y, v = .ref t ∧ H t = none ∧ H' = upd H t (.tup [x, y]) ∧ (∀ xs, SqX K l H a xs → xs[i]? = some x) ∧ ∀ ys, SqX K l' H b ys → ys[i]? = some y,
    fun i H => ∃ xs ys : List V, SqX K l H a xs ∧ SqX K l' H b ys ∧ (xs.length ≤ i ∨ ys.length ≤ i)⟩
structure Sep (z TI TO i1 i2 a b : Addr) : Prop where
  S : ZipSep2 z TI TO i1 i2 [i1, a] [i2, b]
  n1 : a ≠ i1
  n2 : b ≠ i2
theorem turn_zipM {P : Program} {w : World} {K : PySem.W.Frag} {elts : List Expr} {kk : Nat} {tpos : Pos} {l l' : Bool} {a b z TI TO i1 i2 : Addr} (D : Sep z TI TO i1 i2 a b) :
    Turn P w K (.Tuple elts kk tpos) (ItzM K l l' a b) [z, TI, TO, i1, i2] z (fun i h => IsZip h z TI TO .none ∧ IsTupOf2 h TI (.ref i1) (.ref i2) ∧ (∃ x y, IsTupOf2 h TO x y) ∧ ItX l h i1 a i ∧ ItX l' h i2 b i) where
  mem := by simp
  obj := fun i h st c hc => by
    obtain ⟨hz, hTI, ⟨x, y, hTO⟩, h1, h2⟩ := st
    rcases (show c = z ∨ c = TI ∨ c = TO ∨ c = i1 ∨ c = i2 by simpa using hc) with rfl | rfl | rfl | rfl | rfl
    · exact ⟨_, hz, fun v q => nomatch q⟩
    · exact ⟨_, hTI, fun v q => nomatch q⟩
    · exact ⟨_, hTO, fun v q => nomatch q⟩
    · exact h1.live
    · exact h2.live
  keep := fun i h h' st k => by
    obtain ⟨hz, hTI, ⟨x, y, hTO⟩, h1, h2⟩ := st
    exact ⟨k z (by simp) _ hz, k TI (by simp) _ hTI, ⟨x, y, k TO (by simp) _ hTO⟩, h1.moved fun o q => k i1 (by simp) o q, h2.moved fun o q => k i2 (by simp) o q⟩
  item := by
    intro X hP hw hK hc i pins s σ H E I hf st hg
    subst hP hw hK
    obtain ⟨hz, hTI, ⟨x0, y0, hTO⟩, h1, h2⟩ := st
    obtain ⟨xs, ys, x, y, hqx, hqy, hx, hy⟩ := hg
    obtain ⟨us, rv, p1, _⟩ := SqX.seq I hqx
    obtain ⟨ws, rv2, p2, _⟩ := SqX.seq I hqy
    obtain ⟨u, hu, ru⟩ := rv.get hx
    obtain ⟨v, hv, rw'⟩ := rv2.get hy
    have hu' : us.toArray[i]? = some u := by simpa using hu
    have hv' : ws.toArray[i]? = some v := by simpa using hv
    have zl : z < s.heap.objs.size := Heap.lt_size hz
    have Da := draw_x (prog := X.prog) (w := X.w) (A := X.A.in1) (show X.A.in1.handled = none from I.ok.hd hc) l i1 a D.n1 us.toArray
    have Db := draw_x (prog := X.prog) (w := X.w) (A := X.A.in1) (show X.A.in1.handled = none from I.ok.hd hc) l' i2 b D.n2 ws.toArray
    refine wpAny_pyNext_zipD2_item D.S Da Db hz hTI hTO ⟨h1, p1⟩ ⟨h2, p2⟩ (Array.getElem?_eq_some_iff.mp hu').1 (Array.getElem?_eq_some_iff.mp hv').1 fun x1 x2 h' tk q1 q2 z' TO' s1 s2 hT hsz hk => ?_
    have e1 : x1 = u := Option.some.inj (q1.symm.trans hu')
    have e2 : x2 = v := Option.some.inj (q2.symm.trans hv')
    subst e1 e2
    refine ⟨_, rfl, wpAny_letOwnedTupleGo_zip (s := { s with heap := h', toks := tk }) z' fun h'' z'' sb => ?_⟩
    have hT2 : h''.get? s.heap.objs.size = some { cls := .type "tuple", data := .seq #[x1, x2] } := (sb.2 _ (Nat.ne_of_gt zl)).trans hT
    have made : ObjOk X.prog X.w (upd H s.heap.objs.size (.tup [x, y])) h'' s.heap.objs.size (.tup [x, y]) := ⟨by show 2 ≤ sizeLine; decide, [x1, x2], .cons ru (.cons rw' .nil), ⟨_, hT2, rfl, _, rfl⟩⟩
    have I1 : Inv X pins σ (upd H s.heap.objs.size (.tup [x, y])) { s with heap := h'', toks := tk } :=
      I.turnedNew (t' := tk) (ch := [z, TI, TO, i1, i2]) (fun c o hb q => (sb.2 c (fun e => hb (by simp [e]))).trans (hk c o (fun e => hb (by simp [e])) (fun e => hb (by simp [e])) (fun e => hb (by simp [e])) (fun e => hb (by simp [e])) q)) hf (Nat.le_refl _) made
    refine ⟨.ref s.heap.objs.size, _, I1, rfl, ⟨_, x, y, rfl, I.hok.fresh (Nat.le_refl _), rfl, fun m hm => by rw [SqX.inj I hm hqx]; exact hx, fun m hm => by rw [SqX.inj I hm hqy]; exact hy⟩, ⟨z'', ?_, ⟨x1, x2, ?_⟩, ?_, ?_⟩, fun c hcm => ?_⟩
    · exact (sb.2 _ D.S.TIz).trans (hk _ _ D.S.TIz D.S.TITO D.S.TIi1 D.S.TIi2 hTI)
    · exact (sb.2 _ D.S.TOz).trans TO'
    · exact s1.1.moved fun o q => (sb.2 _ (Ne.symm D.S.zi1)).trans q
    · exact s2.1.moved fun o q => (sb.2 _ (Ne.symm D.S.zi2)).trans q
    · have hlt : c < s.heap.objs.size := by
        rcases (show c = z ∨ c = TI ∨ c = TO ∨ c = i1 ∨ c = i2 by simpa using hcm) with rfl | rfl | rfl | rfl | rfl
        · exact zl
        · exact Heap.lt_size hTI
        · exact Heap.lt_size hTO
        · obtain ⟨_, e, _⟩ := h1.live; exact Heap.lt_size e
        · obtain ⟨_, e, _⟩ := h2.live; exact Heap.lt_size e
      rw [upd_ne (Nat.ne_of_lt hlt)]
      exact (hf c hcm).1
  done := by
    intro X hP hw hK hc i pins s σ H E I hf st hg
    subst hP hw hK
    obtain ⟨hz, hTI, ⟨x0, y0, hTO⟩, h1, h2⟩ := st
    obtain ⟨xs, ys, hqx, hqy, hend⟩ := hg
    obtain ⟨us, rv, p1, _⟩ := SqX.seq I hqx
    obtain ⟨ws, rv2, p2, _⟩ := SqX.seq I hqy
    have l1 := rv.length
    have l2 := rv2.length
    have hh : X.A.in1.handled = none := I.ok.hd hc
    have fin : ∀ h' tk, (∀ c o, c ≠ z → c ≠ TO → c ≠ i1 → c ≠ i2 → s.heap.get? c = some o → h'.get? c = some o) → (fun (r : Option Value) s' => r = none ∧ Inv X pins σ H s') none { s with heap := h', toks := tk } := fun h' tk hk => ⟨rfl, I.turnedL (t' := tk) (ch := [z, TI, TO, i1, i2]) (fun c o hb q =>
      hk c o (fun e => hb (by simp [e])) (fun e => hb (by simp [e])) (fun e => hb (by simp [e])) (fun e => hb (by simp [e])) q) hf⟩
    by_cases c1 : xs.length ≤ i
    · have Da := draw_xe (prog := X.prog) (w := X.w) hh l i1 a us.toArray i (by simp; omega)
      by_cases c2 : ys.length ≤ i
      · exact wpAny_pyNext_zipD2_end D.S Da (draw_xe (prog := X.prog) (w := X.w) hh l' i2 b ws.toArray i (by simp; omega)) hz hTI hTO ⟨rfl, h1, p1⟩ ⟨rfl, h2, p2⟩ (Nat.le_refl _) (Nat.le_refl _) (.inl rfl) fin
      · exact wpAny_pyNext_zipD2_end D.S Da (draw_x hh l' i2 b D.n2 ws.toArray) hz hTI hTO ⟨rfl, h1, p1⟩ ⟨h2, p2⟩ (Nat.le_refl _) (by simp; omega) (.inl rfl) fin
    · have c2 : ys.length ≤ i := hend.resolve_left c1
      exact wpAny_pyNext_zipD2_end D.S (draw_x hh l i1 a D.n1 us.toArray) (draw_xe (prog := X.prog) (w := X.w) hh l' i2 b ws.toArray i (by simp; omega)) hz hTI hTO ⟨h1, p1⟩ ⟨rfl, h2, p2⟩ (by simp; omega) (Nat.le_refl _) (.inr rfl) fin
  self := fun A i s Q E st h => wpAny_pyIter_zip st.1 h
theorem addr_ne {x y : Nat} (h : x < y ∨ y < x) : (x : Addr) ≠ (y : Addr) := fun e => by
  have e : x = y := e
  omega
theorem not_in2 {x y z : Addr} (h : x ≠ y) (h' : x ≠ z) : x ∉ [y, z] := fun m => by
  rcases List.mem_cons.mp m with e | m
  · exact h e
  · rcases List.mem_cons.mp m with e | m
    · exact h' e
    · cases m
theorem sep_of (I a b : Nat) (h1 : a < I) (h2 : b < I) : Sep (I + 4) (I + 2) (I + 3) I (I + 1) a b where
  S := {
    TIz := addr_ne (by omega)
    TOz := addr_ne (by omega)
    TITO := addr_ne (by omega)
    TIi1 := addr_ne (by omega)
    mem1 := List.mem_cons_self
    zf1 := not_in2 (addr_ne (by omega)) (addr_ne (by omega))
    Tf1 := not_in2 (addr_ne (by omega)) (addr_ne (by omega))
    TIi2 := addr_ne (by omega)
    mem2 := List.mem_cons_self
    zf2 := not_in2 (addr_ne (by omega)) (addr_ne (by omega))
    Tf2 := not_in2 (addr_ne (by omega)) (addr_ne (by omega))
    sep1_2 := not_in2 (addr_ne (by omega)) (addr_ne (by omega))
    sep2_1 := not_in2 (addr_ne (by omega)) (addr_ne (by omega)) }
  n1 := addr_ne (by omega)
  n2 := addr_ne (by omega)
def iZipX (K : PySem.W.Frag) (ta : TA) : TI := fun σ H R => ta σ H fun vs H1 => ∃ a b xs ys l l', vs = [.ref a, .ref b] ∧ SqX K l H1 a xs ∧ SqX K l' H1 b ys ∧ R (ItzM K l l' a b) H1
theorem pi_zipX {X : Cx} {e e2 : Expr} {ta : TA} {p pos tpos : Pos} {elts : List Expr} {kk : Nat} (hg : Gl X "zip") (hm : X.mg "zip" = none) (ha : PA X [e, e2] ta)
    (hs : starEach [e, e2] X.env = (false, eval e X.env) :: starEach [e2] X.env := by rfl) (hpl : (backTo pos (starEach [e2] X.env)).any (·.1) = false := by rfl) :
    PI X (.Tuple elts kk tpos) (.Call (.Name "zip" p) [e, e2] [] pos) (iZipX X.K ta) := by
  refine ⟨fun pins s σ H R I hh => ?_⟩
  refine Call_ (ld_blt I hg hm boot_zip (PyProof.Rows.callWith_type1 (thn (ha.run pos pins s σ H _ I hh) fun us s1 ⟨vs, H1, I1, r1, a, b, xs, ys, l, l', ev, hqx, hqy, q⟩ => ?_) hs hpl))
  subst ev
  cases r1 with
  | cons r rr =>
    cases rr with
    | cons r' rr =>
      cases rr; cases r; cases r'
      obtain ⟨ms, rv, p1, lt1⟩ := SqX.seq I1 hqx
      obtain ⟨ns, rv2, p2, lt2⟩ := SqX.seq I1 hqy
      have fp : ∀ c ∈ [s1.heap.objs.size + 4, s1.heap.objs.size + 2, s1.heap.objs.size + 3, s1.heap.objs.size, s1.heap.objs.size + 1], s1.heap.objs.size ≤ c := fun c hc => by
        rcases (show c = s1.heap.objs.size + 4 ∨ c = s1.heap.objs.size + 2 ∨ c = s1.heap.objs.size + 3 ∨ c = s1.heap.objs.size ∨ c = s1.heap.objs.size + 1 by simpa using hc) with rfl | rfl | rfl | rfl | rfl <;> omega
      refine zip_begins2 (beg_x l a ms.toArray) (beg_x l' b ns.toArray) p1 p2 fun h' hz hTI hTO g1 g2 hsz hk => wpAny_pyIter_zip hz ?_
      exact ⟨s1.heap.objs.size + 4, [s1.heap.objs.size + 4, s1.heap.objs.size + 2, s1.heap.objs.size + 3, s1.heap.objs.size, s1.heap.objs.size + 1], _, _, H1, rfl, I1.kept (t' := s1.toks) hk, turn_zipM (sep_of _ a b lt1 lt2), ⟨hz, hTI, ⟨_, _, hTO⟩, it_x g1, it_x g2⟩, fun c hc => I1.fpOk (fp c hc) (I1.hok.fresh (fp c hc)), q⟩
section
variable {X : CxT} {K : KT} {e e2 : Expr} {p pos : Pos}
theorem it_zipX {G0 : Hp} {l l' : Bool} {q q' : Addr} {vs ws : List V} {ds es : List PD} (hG : ∀ G H, Ex G0 G → Ex G H → SqX K l H q vs ∧ SqX K l' H q' ws) (hi : ∀ (H : Hp) (xs : List V), True) (r : RpAll K G0 vs ds) (r' : RpAll K G0 ws es) : ItOk K G0 (ItzM K l l' q q') (zipP ds es) := fun B σ ρ G H e R => by
  obtain ⟨hq, hq'⟩ := hG G H e R.gh
  refine ⟨fun i hi => ⟨vs, ws, hq, hq', by rw [r.length, r'.length]; exact zipP_len hi⟩, fun i d hd => ?_⟩
  obtain ⟨x, y, hx, hy, rfl⟩ := zipP_get hd
  obtain ⟨v, hv, rv⟩ := r.get hx
  obtain ⟨w, hw, rw'⟩ := r'.get hy
  refine ⟨⟨vs, ws, v, w, hq, hq', hv, hw⟩, fun z H' ⟨t, x1, y1, ez, ht, eH, h1, h2⟩ => ?_⟩
  have e1 := h1 vs hq
  have e2 := h2 ws hq'
  rw [hv] at e1; cases e1
  rw [hw] at e2; cases e2
  subst ez; subst eH
  exact fresh_tup R ht (.cons (rv.mono e) (.cons (rw'.mono e) .nil))
/-- the items of a list, of a tuple -/
def seqP : PD → Option (List PD)
  | .lst xs => some xs
  | .tup xs => some xs
  | _ => none
def wZipX (wa : Wa) : Wi := fun ρ Q => wa ρ fun rs ρ1 => frz rs ρ1 fun ds ρ2 => match ds with
  | [d, d'] => ok (seqP d) fun xs => ok (seqP d') fun ys => Q (zipP xs ys) ρ2
  | _ => False
theorem seq_x {G : Hp} {v : V} {d : PD} {xs : List PD} (h : Rp K G v d) (e : seqP d = some xs) : ∃ a vs l, v = .ref a ∧ RpAll K G vs xs ∧ ∀ H, Ex G H → SqX K l H a vs := by
  cases h with
  | lst hg r => cases e; exact ⟨_, _, true, rfl, r, fun H x => SqL.of (x _ _ hg nt_lst)⟩
  | tup hg r => cases e; exact ⟨_, _, false, rfl, r, fun H x => ex_t x hg⟩
  | _ => cases e
theorem wi_zipX {t : TA} {wa : Wa} (h : WAa K t wa) : WIi K (iZipX K t) (wZipX wa) := fun B G H σ ρ Q QJ R q k =>
  h B G H σ ρ _ _ R q fun vs G1 H1 ρ1 rs S1 R1 rr q1 => by
    obtain ⟨⟨ds, ρ2⟩, e, q1⟩ := ok_some q1
    obtain ⟨G2, S2, R2, ra⟩ := frz_all R1 rr e
    match ds, ra, q1 with
    | [d, d'], .cons r1 (.cons r2 .nil), q1 =>
      obtain ⟨xs, e1, q1⟩ := ok_some q1
      obtain ⟨ys, e2, q1⟩ := ok_some q1
      obtain ⟨a, us, l, rfl, ra, sa⟩ := seq_x r1 e1
      obtain ⟨b, ws, l', rfl, rb, sb⟩ := seq_x r2 e2
      exact ⟨a, b, us, ws, l, l', rfl, sa _ R2.gh, sb _ R2.gh, k _ G2 H1 ρ2 _ (S1.trans S2) R2 (it_zipX (fun G' H' e e' => ⟨sa _ (e.trans e'), sb _ (e.trans e')⟩) (fun _ _ => trivial) ra rb) q1⟩
theorem di_zipX {t : TA} {wa : Wa} {elts : List Expr} {kk : Nat} {tpos : Pos} (hm : X.mg "zip" = none) (ha : DA X [e, e2] t wa) (hg : Gl X "zip" := by rfl) (hs : starEach [e, e2] X.env = (false, eval e X.env) :: starEach [e2] X.env := by rfl) (hpl : (backTo pos (starEach [e2] X.env)).any (·.1) = false := by rfl) :
    DI X (.Tuple elts kk tpos) (.Call (.Name "zip" p) [e, e2] [] pos) (iZipX X.K t) (wZipX wa) := ⟨pi_zipX hg hm ha.pa hs hpl, wi_zipX ha.wa⟩
end
end DL

set_option Elab.async false
set_option linter.all false
set_option maxRecDepth 100000
set_option maxHeartbeats 2000000
namespace DL
open PySem L2
section
variable {X : CxT} {K : KT} {e tg : Expr} {es : List Expr} {te : TE} {we : We} {pos : Pos}
/-! ### comprehensions with two fors -/
/-- what stands between two turns: the list at D holds acc -/
structure Mid (K : KT) (B : Addr → Prop) (G H G1 : Hp) (D : Addr) (σ : L2.St) (C : List PD → Sl → Prop) (H' : Hp) : Prop where
  ex : ∃ acc G' ρ' vals, Stp B G H G' H' ∧ Ex G1 G' ∧ Rep K B G' H' σ ρ' ∧ H' D = some (.lst vals) ∧ G' D = none ∧ RpAll K G' vals acc ∧
      (∀ (i : Nat) (u : OD), ρ'[i]? = some (SD.own u) → σ[i]? ≠ some (some (V.ref D))) ∧ C acc ρ'
/-- the outer loop: behind its store and its test the inner one, whose items go on at the same list -/
def compO (vs vs1 : List Nat) (wg : Wg) (wt : Wt) (wI1 : Wi) (wg1 : Wg) (wt1 : Wt) (we : We) : List PD → List PD → (List PD → Sl → Prop) → Sl → Prop
  | [], acc, Q, ρ => Q acc ρ
  | d :: ds, acc, Q, ρ => wg d ρ fun ρ1 => wt ρ1 fun b ρ2 => match b with
    | true => wI1 ρ2 fun ds1 ρ3 => compL vs1 wg1 wt1 we ds1 acc (fun acc' ρ4 => compO vs vs1 wg wt wI1 wg1 wt1 we ds acc' Q (wipeS ρ4 vs)) (wipeS ρ3 vs1)
    | false => compO vs vs1 wg wt wI1 wg1 wt1 we ds acc Q (wipeS ρ2 vs)
def wLc2 (vs vs1 : List Nat) (wi : Wi) (wg : Wg) (wt : Wt) (wI1 : Wi) (wg1 : Wg) (wt1 : Wt) (we : We) : We := fun ρ Q => wi ρ fun ds ρ1 => noOwn ρ1 vs = true ∧ compO vs vs1 wg wt wI1 wg1 wt1 we ds [] (fun acc ρ2 => Q (.own (.lst acc)) (restore ρ1 vs ρ2)) (wipeS ρ1 vs)
end
end DL

set_option Elab.async false
set_option linter.all false
set_option maxRecDepth 100000
set_option maxHeartbeats 2000000
namespace DL
open PySem L2
section
variable {X : CxT} {K : KT} {T : Nat → Bool} {e : Expr} {te tt' : TE} {t : TA} {we : We} {wa : Wa} {pos p p2 pos' tpos : Pos} {x : Str}
/-! ### x = [comprehension], which may change later -/
theorem ds_setLc {elt tg iter : Expr} {i : Nat} {y : Str} {py spos : Pos} {scope : Scope} {own : List (Str × Nat)} {ifs : List Expr} {wi : TI} {wI : Wi} {g : TG} {wg : Wg} {tt : TT} {wt : Wt} (hT : T i = false) (hc : X.calm = true) (hN : X.N.Nodup) (hy : X.N[i]? = some y) (hyl : X.env.scope.names.lookup y = some .local)
    (hsw : swapsWith (.ListComp elt [⟨tg, iter, ifs, 0⟩] scope pos) (some (.Name y py)) spos.line X.env = pure true) (hv : (own.map (·.2)).Nodup) (hi : DI X tg iter wi wI) (okb : BlkOk X.N X.env.scope scope own)
    (hg : ∀ (s : Shared) (H : Hp) (C : Addr) (cl : List (Str × Addr)) (fp : List Addr), DG (X.blk s H scope (compEnvC scope cl C X.env) fp) T0 tg g wg) (ho : GOnly (own.map (·.2)) g)
    (ht : ∀ (s : Shared) (H : Hp) (C : Addr) (cl : List (Str × Addr)) (fp : List Addr), PTs (X.blk s H scope (compEnvC scope cl C X.env) fp) ifs tt) (hw : WTt X.K tt wt)
    (he : ∀ (s : Shared) (H : Hp) (C : Addr) (cl : List (Str × Addr)) (fp : List Addr), DE (X.blk s H scope (compEnvC scope cl C X.env) fp) elt te we) (hs : ∀ x, foldedSetIterable iter X.env x = pure x := by intro _; rfl) :
    DS X T (.Assign [.Name y py] (.ListComp elt [⟨tg, iter, ifs, 0⟩] scope pos) spos) (tAsg (tLc wi g tt te (own.map (·.2))) (gName i)) (wSet i (wLc (own.map (·.2)) wI wg wt we)) :=
  ⟨ps_setLc hc hN hy hyl hsw hi.pi okb (fun s H C cl fp => (hg s H C cl fp).pg) ht (fun s H C cl fp => (he s H C cl fp).pe) hs, ws_set hT (we_lc hv hi.wi (hg X.s_0 X.H_0 0 [] []).wg ho hw (he X.s_0 X.H_0 0 [] []).we)⟩
/-! ### divmod of ints -/
def dDivmod : Dn := fun ds k => match ds with
  | [.int i, .int j] => CDivP i j ∧ k (.dat (.tup [.int (i / j), .int (i % j)]))
  | _ => False
/-! ### x op= e, x a datum -/
def wAug (i : Nat) (D : D2) (we : We) : Ws := fun O ρ => match ρ[i]? with
  | some (.dat a) => we ρ fun r ρ1 => look r ρ1 fun y => D a y fun res => ok (into res i ρ1) O.nx
  | _ => False
/-! ### with the written part by its own name -/
variable {KF : PySem.W.Frag} {a b : Expr} {ta tb : TE} {wA wB' : We}
/-! ### sum of a tuple of ints -/
theorem sum_tupG {prog : Program} {w : World} {A : Around} {E : Value → Shared → Prop} {s : Shared} {l : Addr} {xs : Array (Int × Tok)} {Q : Value → Shared → Prop} (hh : A.handled = none) (hl : s.heap.IsTuple l (intItems xs))
    (h : ∀ h' tk t', (∀ b o, s.heap.get? b = some o → h'.get? b = some o) → Q (.int (preSum (numAt xs) xs.size) t') { s with heap := h', toks := tk }) :
    wpAny (model prog w) A (PySem.call (.builtin "sum") [.ref l]) Q E s := by
  have hlt : l < s.heap.objs.size := by obtain ⟨_, e, _⟩ := hl; exact Heap.lt_size e
  refine call_sum_walkG (wpAny_pyIter_tuple hl ?_)
  refine ⟨_, _, _, _, _, _, numAt xs, rfl, Walks.tuple (A := A.in1) hh _ l (Nat.ne_of_lt hlt) (intItems xs), ⟨⟨_, Heap.get?_push_size _ rfl, rfl, rfl⟩, hl.push _⟩, (fun b hb => ?_), (fun _ _ => intItems_at), fun h' tk t' hk => ?_⟩
  · show b < (s.heap.push _).objs.size
    rw [Heap.size_push]
    rcases List.mem_cons.mp hb with rfl | hb
    · exact Nat.lt_succ_self _
    · rcases List.mem_cons.mp hb with rfl | hb
      · exact Nat.lt_succ_of_lt hlt
      · cases hb
  · have := h h' tk t' (fun b o e => hk b o (fun hb => absurd (Heap.lt_size e) ((List.mem_singleton.mp hb) ▸ Nat.lt_irrefl _)) (Heap.get?_push_of_some _ e))
    simpa [intItems] using this
theorem sum_rawT {prog : Program} {w : World} {A : Around} {E : Value → Shared → Prop} {s : Shared} {l : Addr} {its : List Value} {ns : List Int} {Q : Value → Shared → Prop} (hh : A.handled = none) (hl : s.heap.IsTuple l its.toArray) (hi : PyProof.Rows.IntsAre its ns)
    (h : ∀ h' tk t', (∀ b o, s.heap.get? b = some o → h'.get? b = some o) → Q (.int ns.sum t') { s with heap := h', toks := tk }) : wpAny (model prog w) A (PySem.call (.builtin "sum") [.ref l]) Q E s := by
  obtain ⟨xs, e⟩ := hi.allInts.items
  have hn : numsOf (intItems xs).toList = ns := by rw [← e]; exact hi.numsOf
  rw [nums_intItems] at hn
  rw [e] at hl
  refine sum_tupG hh hl fun h' tk t' hk => ?_
  have := h h' tk t' hk
  rw [preSum_eq, List.take_of_length_le (by simp), hn]; exact this
def rSumT (K : PySem.W.Frag) : List V → Hp → VK → Prop := fun vs H Q => ∃ (a : Addr) (ns : List Int), vs = [V.ref a] ∧ SqT K H a (ns.map V.int) ∧ Q (.int ns.sum) H
theorem cr_sumT (hc : X.calm = true) : CallR X (.builtin "sum") (rSumT X.K) := by
  intro pins s σ H vs us Q I r h
  obtain ⟨a, ns, rfl, hs, q⟩ := h
  obtain ⟨its, rv, hl, _⟩ := I.tuple hs
  rw [Vals.ref1 r]
  exact sum_rawT (I.ok.hd hc) hl rv.ints fun h' tk t' hk => ⟨.int _, H, I.kept hk, ⟨_, rfl⟩, q⟩
def rSumX (K : PySem.W.Frag) : List V → Hp → VK → Prop := fun xs H Q => rSum K xs H Q ∨ rSumT K xs H Q
def dSumX : Dn := fun ds k => match ds with
  | [.lst xs] => ok (intsOf xs) fun ns => k (.dat (.int ns.sum))
  | [.scr ns] => k (.dat (.int ns.sum))
  | [.tup xs] => ok (intsOf xs) fun ns => k (.dat (.int ns.sum))
  | _ => False
theorem db_sumX (hc : X.calm = true) : DB X (.builtin "sum") (rSumX X.K) dSumX := by
  refine ⟨CallR.orr (cr_sum hc) (cr_sumT hc), fun B G H σ ρ xs ds Q QV R hv q k => ?_⟩
  match ds, hv, q with
  | [.lst ys], hv, q => exact .inl ((db_sum hc).ok B G H σ ρ xs _ Q QV R hv q k)
  | [.scr ys], hv, q => exact .inl ((db_sum hc).ok B G H σ ρ xs _ Q QV R hv q k)
  | [.tup ys], .cons h .nil, q =>
    obtain ⟨ns, e, q⟩ := ok_some q
    obtain ⟨a, us, rfl, ha, ra⟩ := h.tup R.gh
    rw [intsOf_eq e] at ra
    rw [ra.ints] at ha
    exact .inr ⟨a, ns, rfl, ha, k.dat R (.int _) q⟩
/-! ### < of ints, and of tuples of ints -/
def dLtX : D2 := fun x y k => match x, y with
  | .int i, .int j => k (.dat (.bl (decide (i < j))))
  | .tup xs, .tup ys => ok (intsOf xs) fun ns => ok (intsOf ys) fun ms => k (.dat (.bl (HT.lexLt ns ms)))
  | _, _ => False
/-! ### the truth of a datum -/
def dTr : PD → (Bool → Prop) → Prop
  | .non, k => k false
  | .bl b, k => k b
  | .int i, k => k (i != 0)
  | .str y, k => y.length ≤ sizeLine ∧ k ((y.length : Int) != 0)
  | .lst xs, k => k (!xs.isEmpty)
  | .scr ns, k => k (!ns.isEmpty)
  | .tup xs, k => k (!xs.isEmpty)
  | .dct ks, k => k (!ks.isEmpty)
  | _, _ => False
def wTr (w : We) : Wt := fun ρ Q => w ρ fun r ρ1 => look r ρ1 fun d => dTr d fun b => Q b ρ1
end
end DL

set_option Elab.async false
set_option linter.all false
set_option maxRecDepth 100000
set_option maxHeartbeats 2000000
namespace DL
open PySem L2 PyProof.Rows
/-! ### a tuple over and over, many times -/
def rTmB (K : PySem.W.Frag) : R2 := fun x y H Q => ∃ (a : Addr) (m : Int) (us : List V), x = .ref a ∧ y = .int m ∧ SqT K H a us ∧ us ≠ [] ∧ 2 ≤ m ∧ us.length * m.toNat ≤ 1000000 ∧ ∀ b, H b = none → Q (.ref b) (upd H b (.tup (List.replicate m.toNat us).flatten))
def dTmB : D2 := fun x y k => match x, y with
  | .tup xs, .int n => xs ≠ [] ∧ 2 ≤ n ∧ xs.length * n.toNat ≤ 1000000 ∧ k (.dat (.tup (List.replicate n.toNat xs).flatten))
  | _, _ => False
section
variable {X : CxT}
end
end DL

set_option Elab.async false
set_option linter.all false
set_option maxRecDepth 100000
set_option maxHeartbeats 2000000
namespace DL
open PySem PyProof.Rows L2
/-! ### len(set(xs)), xs a list of ints -/
def dd (ns : List Int) : List Int := PyProof.Rows.firstMet (fun i => ns.getD i 0) ns.length
theorem dd_le (ns : List Int) : (dd ns).length ≤ ns.length := PyProof.Rows.firstMet_length_le _ _
section
variable {X : CxT} {K : KT} {T : Nat → Bool}
def tLenSetG (KF : PySem.W.Frag) (ta : TE) : TE := fun σ H Q =>
  ta σ H fun x H1 => ∃ (a : Addr) (ns : List Int), x = .ref a ∧ SqL KF H1 a (ns.map V.int) ∧ ns.length ≤ 4000 ∧ Q (.int ((dd ns).length : Nat)) H1
theorem pe_lenSetG {Z : Cx} {e : Expr} {te : TE} {p1 p2 q1 q2 : Pos} (gl : Gl Z "len") (ml : Z.mg "len" = none) (gs : Gl Z "set") (ms : Z.mg "set" = none) (he : PE Z e te) (hc : Z.calm = true := by rfl)
    (st : starEach [e] Z.env = (false, eval e Z.env) :: starEach [] Z.env := by rfl) :
    PE Z (.Call (.Name "len" p1) [.Call (.Name "set" p2) [e] [] q2] [] q1) (tLenSetG Z.K te) := by
  constructor
  intro pins s σ H Q I h
  refine Call_ (ld_blt I gl ml boot_len ?_)
  refine PyProof.Rows.callWith_builtin1 (PyProof.Rows.args_cons ?_ rfl) rfl rfl
  refine Call_ (ld_blt I gs ms boot_set ?_)
  have inner := he.run pins s σ H _ I h
  refine PyProof.Rows.callWith_type1 (PyProof.Rows.args_cons (thn inner fun u s1 ⟨x, H1, I1, rx, rest⟩ => PyProof.Rows.args_nil ?_) st) st rfl
  obtain ⟨a, ns, ex, hl, n4, rest⟩ := rest
  subst ex
  cases rx
  obtain ⟨us, vu, il, _⟩ := I1.list hl
  have sz : us.toArray.size = ns.length := by
    rw [List.size_toArray, ← vu.length, List.length_map]
  have ia : ∀ {ns : List Int} {us : List Value}, Vals (ns.map V.int) us → PyProof.Rows.IntsAre us ns := fun {ns} => by
    induction ns with
    | nil => intro us h; cases h; exact .nil
    | cons n ns ih =>
      intro us h
      cases h with
      | cons r t =>
        obtain ⟨k, rfl⟩ := r
        exact .cons n k (ih t)
  refine call_set_list (I1.ok.hd hc) il.isList (by simpa using ia vu) (by rw [sz]; unfold scanBound; omega) fun h2 tk hS hk => ?_
  refine PyProof.Rows.args_nil ?_
  rw [sz] at hS
  obtain ⟨ob, es, ep, t, g1, g2, g3, _, _, _, g4, g5⟩ := hS
  have I2 : Inv Z pins σ H1 { s1 with heap := h2, toks := tk } := I1.kept fun b o e => hk b o (Heap.lt_size e) e
  have dl := dd_le ns
  refine call_len_set g1 g2 g3 g4 (by rw [g5]; have := dl; unfold dd at this; omega) ?_
  exact ⟨.int ((dd ns).length : Nat), H1, I2.tok _, ⟨_, by rw [g5]; rfl⟩, rest⟩
def wLenSet (wk : We) : We := fun ρ Q => wk ρ fun r ρ1 => look r ρ1 fun d => match d with
  | .lst xs => ok (intsOf xs) fun ns => ns.length ≤ 4000 ∧ Q (.dat (.int ((dd ns).length : Nat))) ρ1
  | _ => False
theorem we_lenSet {ty : TE} {wk : We} (h : WE K ty wk) : WE K (tLenSetG K.F ty) (wLenSet wk) := fun B G H σ ρ Q QV R q k =>
  h B G H σ ρ _ _ R q fun y G1 H1 ρ1 r S1 R1 rr q1 => by
    obtain ⟨d, ed, q1⟩ := ok_some q1
    match d, ed, q1 with
    | .lst xs, ed, q1 =>
      obtain ⟨ns, en, n4, q1⟩ := ok_some q1
      obtain ⟨a, us, rfl, ha, ra⟩ := (rr.vw R1 ed).lst R1.gh
      rw [intsOf_eq en] at ra
      rw [ra.ints] at ha
      exact ⟨a, ns, rfl, SqL.of ha, n4, k _ G1 H1 ρ1 _ S1 R1 (.dat (.int _)) q1⟩
theorem de_lenSet {e : Expr} {te : TE} {we : We} {p1 p2 q1 q2 : Pos} (ml : X.mg "len" = none) (ms : X.mg "set" = none) (he : DE X e te we) (gl : Gl X "len" := by rfl) (gs : Gl X "set" := by rfl) (hc : X.calm = true := by rfl)
    (st : starEach [e] X.env = (false, eval e X.env) :: starEach [] X.env := by rfl) :
    DE X (.Call (.Name "len" p1) [.Call (.Name "set" p2) [e] [] q2] [] q1) (tLenSetG X.cx.K te) (wLenSet we) := ⟨pe_lenSetG gl ml gs ms he.pe hc st, we_lenSet (K := X.K) he.we⟩
end
end DL

set_option Elab.async false
set_option linter.all false
set_option maxRecDepth 100000
set_option maxHeartbeats 2000000
namespace DL
open PySem PyProof.Rows L2
/-! ### d.update(e), both with ints and texts as keys -/
def rDUpd : V → List V → Hp → VK → Prop := fun x vs H Q => ∃ (a b : Addr) (kvs more : List (Key × V)), x = .ref a ∧ vs = [.ref b] ∧ a ≠ b ∧ H a = some (.dK kvs) ∧ H b = some (.dK more) ∧ kvs.length + more.length ≤ sizeLine ∧ Q .non (upd H a (.dK (mergeK kvs more)))
def mergeP (kvs more : List (Key × PD)) : List (Key × PD) := more.foldl (fun acc kv => putP acc kv.1 kv.2) kvs
section
variable {X : CxT} {K : KT} {T : Nat → Bool} {e : Expr} {es : List Expr} {te : TE} {t : TA} {we : We} {wr wa : Wa} {pos p apos cpos : Pos} {x : Str}
def wDUpd (j : Nat) (wa : Wa) : We := fun ρ Q => ownD j ρ fun _ => wa ρ fun rs ρ1 => ownD j ρ1 fun kvs => match rs with
  | [.dat (.dct more)] => kvs.length + more.length ≤ sizeLine ∧ Q (.dat .non) (ρ1.set j (.own (.dK (mergeP kvs more))))
  | _ => False
/-! ### {k: v, ..}, the keys texts -/
def strV (ks : List Str) (vs : List V) : List (V × V) := (ks.zip vs).map fun kv => (V.str kv.1, kv.2)
/-- the pairs of a display -/
structure DPs (X : CxT) (pos : Pos) (keys : List (Option Expr)) (values : List Expr) (trs : List (TE × TE)) (ks : List Str) (wa : Wa) : Prop where
  ps : PPs X pos keys values trs
  wp : ∀ (B : Addr → Prop) (G H : Hp) (σ : L2.St) (ρ : Sl) (Q : List Rz → Sl → Prop) (QV : List (V × V) → Hp → Prop), Rep X.K B G H σ ρ → wa ρ Q →
    (∀ vs G' H' ρ' rs, Stp B G H G' H' → Rep X.K B G' H' σ ρ' → RRs X.K B G' H' σ ρ' vs rs → vs.length = ks.length → Q rs ρ' → QV (strV ks vs) H') → tPairs trs σ H QV
def strD (ks : List Str) (ds : List PD) : List (Key × PD) := (ks.zip ds).map fun kv => (Sum.inr kv.1, kv.2)
def wDisp (ks : List Str) (wa : Wa) : We := fun ρ Q => wa ρ fun rs ρ1 => frz rs ρ1 fun ds ρ2 => Q (.own (.dK (mergeP [] (strD ks ds)))) ρ2
def strK (ks : List Str) (vs : List V) : List (Key × V) := (ks.zip vs).map fun kv => (Sum.inr kv.1, kv.2)
/-! ### sorted(d), the keys texts -/
def strsOf : List (Key × PD) → Option (List Str)
  | [] => some []
  | (.inr k, _) :: r => (strsOf r).map (k :: ·)
  | _ :: _ => none
def dSortedD : Dn := fun ds k => match ds with
  | [.dct kvs] => ok (strsOf kvs) fun ks => ks.length < 64 ∧ ∀ ys : List Str, ys.Perm ks → sortedS ys = true → k (.own (.lst (ys.map PD.str)))
  | _ => False
theorem Vw.dct {G H : Hp} {v : V} {ks : List (Key × PD)} (e : Ex G H) (h : Vw K G H v (.dct ks)) : ∃ a vs, v = .ref a ∧ H a = some (.dK vs) ∧ RpKv K G vs ks := by
  rcases h with h | ⟨q, ho, o, rfl, h1, h2, h3⟩
  · cases h with
    | dct hq r => exact ⟨_, _, rfl, e _ _ hq nt_dK, r⟩
  · cases h2 with
    | lst => cases h3
    | dK r => cases h3; exact ⟨_, _, rfl, h1, r⟩
    | dT _ _ => cases h3
/-! ### sep.join(xs) -/
def strsIn : List PD → Option (List Str)
  | [] => some []
  | .str k :: r => (strsIn r).map (k :: ·)
  | _ :: _ => none
def wJoin (wo we : We) : We := fun ρ Q => wo ρ fun r ρ1 => match r with
  | .dat (.str a) => we ρ1 fun r2 ρ2 => look r2 ρ2 fun d => match d with
    | .lst xs => ok (strsIn xs) fun ys => (ys.map (·.length)).sum + ys.length * a.length ≤ 16777216 ∧ Q (.dat (.str (Txt.join a ys))) ρ2
    | .tup xs => ok (strsIn xs) fun ys => (ys.map (·.length)).sum + ys.length * a.length ≤ 16777216 ∧ Q (.dat (.str (Txt.join a ys))) ρ2
    | _ => False
  | _ => False
def rJoin (K : PySem.W.Frag) : V → List V → Hp → VK → Prop := fun x xs H Q => ∃ a p, ∃ ys : List Str, x = .str a ∧ xs = [.ref p] ∧ (SqL K H p (ys.map V.str) ∨ SqT K H p (ys.map V.str)) ∧
      (ys.map (·.length)).sum + ys.length * a.length ≤ 16777216 ∧ Q (.str (Txt.join a ys)) H
end
/-! ### try .. except as, the handler's tree told with its exception -/
section
variable {X : CxT} {T : Nat → Bool} {x n : Str} {CS : Addr} {i : Nat} {asg : List Nat} {body suite : List Stmt} {s0 : Stmt} {np pos pos' : Pos} {tb : WX → TS} {wb : Xp → Ws} {ws : Ws} {N : Nat} {cl : Nat → Addr}
theorem ds_try2 {ts2 : Addr → TS} (hs : X.stack = X.env :: X.outer) (hf : X.env.frame = some X.env.locals) (hex : X.ex = []) (hN : X.N.Nodup) (hi : X.N[i]? = some n) (hl : X.env.kindOf n = some .local) (hc : Names X x (.ref CS))
    (hm : ∀ j, j < N → PySem.W.exmOne X.cx.K (.ref (cl j)) (.ref CS) = some true) (hT : T i = false) (hA : asg.all (fun j => !T j) = true)
    (hb : ∀ (W : WX) (pn : List (Addr × Obj)) (xe : Value → Shared → Prop) (po : PassesOwn (model X.prog X.w) X.A X.env xe) (tk : Takes (X.cx.tr pn xe) W) (B0 : Addr → Prop) (G0 H0 : Hp) (Ξ : Xp) (lk : Lk X.cx.K B0 G0 H0 Ξ W),
      DSs ⟨X.cx.tr pn xe, X.T, B0, G0, H0, Ξ, W, po, tk, lk⟩ (fun j => !asg.contains j) body (tb W) (wb Ξ))
    (hW : ∀ (W : WX) (D : Ends) (σ : L2.St) (H : Hp), tb (fun cls d _ H' => W cls d σ H') D σ H → tb W D σ H)
    (hsu : ∀ a : Addr, DSs (X.hot a) T (s0 :: suite) (ts2 a) ws) (hts : ∀ a, ts2 a = ts2 0 := by intro _; rfl) :
    DS X T (.Try body [.ExceptHandler (some (.Name x np)) (some n) (s0 :: suite) pos'] [] [] pos) (fun D σ H => tb (wHot X.cx.K (.ref CS) i (ts2 0) D) D σ H) (wTry i asg N cl wb ws) :=
  ds_try hs hf hex hN hi hl hc hm hT hA hb hW (fun a => by rw [← hts a]; exact hsu a)
end
end DL

set_option Elab.async false
set_option linter.all false
set_option maxRecDepth 100000
set_option maxHeartbeats 2000000
namespace DL
open PySem L2
section
variable {X : CxT} {K : KT} {T : Nat → Bool} {e : Expr} {es : List Expr} {te : TE} {we : We} {wa : Wa} {t : TA} {pos p pos' : Pos} {x : Str} {C : Addr} {f : Str}
/-! ### e.f, e an instance of one of the program's classes -/
def wFld (C : Addr) (f : Str) (we : We) : We := fun ρ Q => we ρ fun r ρ1 => look r ρ1 fun d => match d with
  | .ins C' fs => C' = C ∧ ok (fs.lookup f) fun v => Q (.dat v) ρ1
  | _ => False
theorem Vw.ins {G H : Hp} {v : V} {fs : List (Str × PD)} (e : Ex G H) (h : Vw K G H v (.ins C fs)) : ∃ a dx vfs, v = .ref a ∧ H a = some (.ins C dx vfs) ∧ H dx = some (.own a) ∧ RpKv K.F G (vfs.map fun p => ((Sum.inr p.1 : Key), p.2)) (fs.map fun p => ((Sum.inr p.1 : Key), p.2)) := by
  rcases h with h | ⟨q, ho, o, rfl, h1, h2, h3⟩
  · cases h with
    | ins h1 h2 r => exact ⟨_, _, _, rfl, e _ _ h1 (fun _ z => by cases z), e _ _ h2 (fun _ z => by cases z), r⟩
  · cases h2 <;> cases h3
/-! ### C(e), by the class's own __init__ -/
structure IniG (P : Program) (w : World) (KF : PySem.W.Frag) (mg : Str → Option Value) (base : Heap) (k : Nat) (f : Addr) (fd : FuncData) (ps : List Str) (sp : Sp) : Prop where
  len : ∀ vs H Q E, sp vs H Q E → vs.length = ps.length
  run : ∀ (A : Around) (outer : List PySem.Env) (s : Shared) (H : Hp) (args : Args) (us : List Value) (vs : List V) (Q : VK) (E : XK), Room k A → A.guards = some [] → Env0 P w KF mg base A outer s H → BindsTo s fd args (ps.zip us) → Vals vs us → sp vs H Q E →
    codeAny (model P w) A (.call (.ref f) args) (CR (L2.CX P w) outer P w H s Q E) s
def tMakeW (C : Addr) (sp : Sp) (W : WX) (t : TA) : TE := fun σ H Q => t σ H fun vs H1 => ∀ x dx, H1 x = none → H1 dx = none → dx ≠ x → sp (.ref x :: vs) (upd (upd H1 dx (.own x)) x (.ins C dx [])) (fun v H2 => v = .non ∧ Q (.ref x) H2) (fun cls d H' => W cls d σ H')
/-- what an __init__ does that keeps in its first field what a def makes of what it gets, in its second what it gets -/
def spIni (KF : PySem.W.Frag) (Ts : List (Addr × Str)) (C : Addr) (f1 f2 : Str) (F : Fd) : Sp := fun vs H Q E => ∃ (x dx : Addr) (v : V) (B : Addr → Prop) (G : Hp) (t : PD) (QR : PD → Prop) (Ξ : Xp), vs = [.ref x, v] ∧ H x = some (.ins C dx []) ∧ H dx = some (.own x) ∧ dx ≠ x ∧ G x = none ∧ G dx = none ∧ ¬ B x ∧ ¬ B dx ∧
  Rep ⟨KF, Ts, B, G, H⟩ B G H [] [] ∧ Rp KF G v t ∧ F [.dat t] (fun r _ => ∃ d, r = .dat d ∧ QR d) Ξ ∧
  (∀ d G' H', Stp B G H G' H' → Rep ⟨KF, Ts, B, G, H⟩ B G' H' [] [] → Rp KF G' (.ref x) (.ins C [(f1, d), (f2, t)]) → QR d → Q .non H') ∧ Lk KF B G H Ξ (fun cls d _ H' => E cls d H')
def wMake (C : Addr) (f1 f2 : Str) (F : Fd) (Ξ : Xp) (wa : Wa) : We := fun ρ Q => wa ρ fun rs ρ1 => frz rs ρ1 fun ds ρ2 => match ds with
  | [t] => F [.dat t] (fun r _ => ∃ d, r = .dat d ∧ Q (.dat (.ins C [(f1, d), (f2, t)])) ρ2) Ξ
  | _ => False
/-- a class that can be made by its name -/
structure Mkr (P : Program) (w : World) (KF : PySem.W.Frag) (Ts : List (Addr × Str)) (mg : Str → Option Value) (base : Heap) (k : Nat) (x : Str) (C : Addr) (f1 f2 : Str) (F : Fd) : Prop where
  ex : ∃ (fI : Addr) (fd : FuncData) (ps : List Str), mg x = some (.ref C) ∧ L2.Mk KF C fI ∧ IniG P w KF mg base k fI fd ps (spIni KF Ts C f1 f2 F) ∧ Binds KF fd ps []
end
end DL

set_option Elab.async false
set_option linter.all false
set_option maxRecDepth 100000
set_option maxHeartbeats 2000000
namespace DL
open PySem L2
/-! ### an __init__ of two rows: self.f1 = g(x), self.f2 = x -/
section
variable {P : Program} {w : World} {KF : PySem.W.Frag} {Ts : List (Addr × Str)} {mg : Str → Option Value} {base : Heap}
end
end DL

set_option Elab.async false
set_option linter.all false
set_option maxRecDepth 100000
set_option maxHeartbeats 2000000
namespace DL
open PySem PySem.Calls PyProof.Rows L2
/-! ### methods of the program's classes; len(e) by an own __len__ -/
structure Mth (P : Program) (w : World) (KF : PySem.W.Frag) (Ts : List (Addr × Str)) (mg : Str → Option Value) (base : Heap) (k : Nat) (C : Addr) (m : Str) (ps : List Str) (F : Fd) : Prop where
  ex : ∃ (f : Addr) (fd : FuncData), PySem.W.findIn KF (.ref C) m = some (some (.ref f)) ∧ PySem.W.isFn KF (.ref f) = true ∧ PySem.W.keepIn KF (.ref f) = true ∧ Binds KF fd ps [] ∧ FnG P w KF Ts mg base k f fd ps F
section
variable {prog : Program} {w : World} {A : Around} {E : Value → Shared → Prop} {s : Shared} {K : PySem.W.Frag} {x C f : Addr} {ox : Obj} {od : Option Obj}
end
section
variable {X : CxT} {K : KT} {e : Expr} {te : TE} {we : We} {pos p : Pos} {x : Str} {C : Addr}
def tLenO (KF : PySem.W.Frag) (Ts : List (Addr × Str)) (C : Addr) (F : Fd) (te : TE) : TE := fun σ H Q => te σ H fun x H1 => ∃ a dx fs, x = .ref a ∧ H1 a = some (.ins C dx fs) ∧
  SpG KF Ts 1 F [.ref a] H1 (fun v H2 => ∃ n : Int, v = .int n ∧ 0 ≤ n ∧ n < 2 ^ 63 ∧ Q (.int n) H2) (fun _ _ _ => False)
def wLenO (C : Addr) (F : Fd) (we : We) : We := fun ρ Q => we ρ fun r ρ1 => look r ρ1 fun d => (∃ fs, d = .ins C fs) ∧ F [.dat d] (fun r' _ => ∃ n : Int, r' = .dat (.int n) ∧ 0 ≤ n ∧ n < 2 ^ 63 ∧ Q (.dat (.int n)) ρ1) noX
end
end DL

set_option Elab.async false
set_option linter.all false
set_option maxRecDepth 100000
set_option maxHeartbeats 2000000
namespace DL
open PySem L2 PySem.Spec PyProof.Rows
section
variable {X : CxT} {K : KT} {e o : Expr} {te to : TE} {we wo : We} {apos pos p : Pos} {x : Str}
/-! ### texts: split, isascii, isdigit, int -/
def wSplit (wo we : We) : We := fun ρ Q => wo ρ fun r ρ1 => match r with
  | .dat (.str a) => we ρ1 fun r2 ρ2 => match r2 with
    | .dat (.str b) => (b.length == 0) = false ∧ a.length + 2 ≤ sizeLine ∧ Q (.own (.lst ((Txt.split a b).map PD.str))) ρ2
    | _ => False
  | _ => False
def wStrP (g : Str → Bool) (wo : We) : We := fun ρ Q => wo ρ fun r ρ1 => match r with
  | .dat (.str a) => Q (.dat (.bl (g a))) ρ1
  | _ => False
def dIntS : Dn := fun ds k => match ds with
  | [.str a] => ok (PySem.intText? a) fun n => a.length ≤ 640 ∧ k (.dat (.int n))
  | _ => False
/-! ### enumerate(xs, start=c), xs a list -/
def enumFrom (c : Nat) (ds : List PD) : List PD := ds.mapIdx fun i d => .tup [.int ((i + c : Nat) : Int), d]
def IteS (K : PySem.W.Frag) (a : Addr) (c : Nat) : It :=
  ⟨fun i H => ∃ (xs : List V) (x : V), SqL K H a xs ∧ xs[i]? = some x, fun i H v H' => ∃ t x, v = .ref t ∧ H t = none ∧ H' = upd H t (.tup [.int ((i + c : Nat) : Int), x]) ∧ ∀ xs, SqL K H a xs → xs[i]? = some x, fun i H => ∃ xs : List V, SqL K H a xs ∧ xs.length ≤ i⟩
def EnStS (a e it : Addr) (c : Nat) (i : Nat) (h : Heap) : Prop := (∃ old, IsEnum h e it ((i + c : Nat) : Int) old) ∧ h.IsListIter it a i ∧ e ≠ it ∧ e ≠ a ∧ a ≠ it
end
end DL
namespace DL
open PySem L2 PySem.Spec PyProof.Rows
section
variable {M : Model} {A : Around} {E : Value → Shared → Prop} {s : Shared} {env : PySem.Env}
end
def iEnumS (K : PySem.W.Frag) (c : Nat) (ta : TA) : TI := fun σ H R => ta σ H fun vs H1 => ∃ a xs, vs = [.ref a] ∧ SqL K H1 a xs ∧ R (IteS K a c) H1
section
variable {K : KT}
def wEnumS (c : Nat) (wa : Wa) : Wi := fun ρ Q => wa ρ fun rs ρ1 => frz rs ρ1 fun ds ρ2 => match ds with
  | [.lst xs] => Q (enumFrom c xs) ρ2
  | _ => False
end
end DL

set_option Elab.async false
set_option linter.all false
set_option maxRecDepth 100000
set_option maxHeartbeats 2000000
namespace DL
open PySem PyProof.Rows L2
/-! ### len(set(xs)), xs a tuple of ints -/
section
variable {X : CxT} {K : KT} {T : Nat → Bool}
def tLenSetT (KF : PySem.W.Frag) (ta : TE) : TE := fun σ H Q =>
  ta σ H fun x H1 => ∃ (a : Addr) (ns : List Int), x = .ref a ∧ SqT KF H1 a (ns.map V.int) ∧ ns.length ≤ 4000 ∧ ∀ c : Nat, (c = ns.length ↔ ns.Nodup) → Q (.int c) H1
def wLenSetT (wk : We) : We := fun ρ Q => wk ρ fun r ρ1 => look r ρ1 fun d => match d with
  | .tup xs => ok (intsOf xs) fun ns => ns.length ≤ 4000 ∧ ∀ c : Nat, (c = ns.length ↔ ns.Nodup) → Q (.dat (.int (c : Nat))) ρ1
  | _ => False
end
end DL

set_option Elab.async false
set_option linter.all false
set_option maxRecDepth 100000
set_option maxHeartbeats 2000000
namespace DL
open PySem PyProof.Rows L2
/-! ### rules for the inside of a comprehension: the written part by its own name -/
section
variable {X : CxT} {e o : Expr} {te to : TE} {we wo : We} {pos apos : Pos} {C : Addr} {f : Str}
end
/-! ### an own class made: all by its own name -/
section
variable {X : CxT} {e : Expr} {es : List Expr} {t : TA} {wa : Wa} {pos p : Pos} {C : Addr} {x : Str}
end
/-- a lambda handed over: all by its own name -/
theorem de_lamK {X : CxT} {KF : PySem.W.Frag} {Ts : List (Addr × Str)} {x a : Str} {c P : Addr} {k : Nat} {params : Arguments} {body : Expr} {scope : Scope} {t : XK → TE} {wl : Xp → We} {F : Lm1 → (Rz → Prop) → Prop} {p lpos pos : Pos} (Hd : Hrd X.prog X.w KF Ts X.mg X.base x a F) (hg : Gl X x)
    (TB : LamX.TabB X.base X.mg c P) (hcode : X.env.code = .ref c) (hmT : (P, X.env.qual ++ "<lambda>") ∈ Ts) (hu : ∀ p ∈ Ts, p.1 = P → p.2 = X.env.qual ++ "<lambda>") (hr : Room (k + 2) X.A) (hgd : X.A.guards = some []) (L : LamX.LamS X.env.scope scope) (hdef : defaultsOf params X.env = ([], []))
    (hbind : ∀ (q : Str) (cl : List (Str × Addr)) (pm cv ctv : Value), bindArgs (PySem.W.kla_fn "<lambda>" q params body scope cl pm cv ctv) ⟨[], []⟩ = pure [])
    (hbody : ∀ (f c' : Addr) (A : Around) (outer : List PySem.Env) (s : Shared) (H : Hp) (E : XK) (B0 : Addr → Prop) (G0 H0 : Hp) (Ξ : Xp) (lk : Lk X.cx.K B0 G0 H0 Ξ (fun cls d _ H' => E cls d H')), Room k (A.deeper (LamX.lamEnv X.cx scope s.heap.objs.size f c')) → A.guards = some [] →
      DE (lamT X A outer s H E scope f c' B0 G0 H0 Ξ lk) body (t E) (wl Ξ)) (hK : X.cx.K = KF := by rfl) (hT : X.T = Ts := by rfl)
    (hdb : (x == ("__debug__" : Str)) = false := by decide) (hd : (a == ("__debug__" : Str)) = false := by decide) (hcd : (a == ("__classdict__" : Str)) = false := by decide) :
    DE X (.Call (.Name x p) [.Lambda params body scope lpos] [] pos) (LamX.tLam Ts (TTh KF Ts F) t) (wLam F wl) := by
  subst hK hT
  exact de_lam Hd hg TB hcode hmT hu hr hgd L hdef hbind hbody hdb hd hcd
section
variable {X : CxT} {te : TE} {we : We} {pos p : Pos} {x : Str} {D fI : Addr} {e : Expr}
end
/-! ### is True, is not True -/
section
variable {X : CxT} {K : KT}
def dIsB : D2 := fun x y k => match x, y with
  | .bl a, .bl b => k (.dat (.bl (decide (a = b))))
  | _, _ => False
def dNotB : D2 := fun x y k => match x, y with
  | .bl a, .bl b => k (.dat (.bl (!decide (a = b))))
  | _, _ => False
end
end DL

set_option Elab.async false
set_option linter.all false
set_option maxRecDepth 100000
set_option maxHeartbeats 2000000
namespace DL
open PySem L2
/-! ### [a, ..] * n -/
section
variable {X : CxT} {K : KT}
def dLm : D2 := fun x y k => match x, y with
  | .lst xs, .int n => (-1000 ≤ n ∧ n ≤ 1000) ∧ xs.length ≤ 1000 ∧ k (.own (.lst (List.replicate n.toNat xs).flatten))
  | _, _ => False
end
end DL

set_option Elab.async false
set_option linter.all false
set_option maxRecDepth 100000
set_option maxHeartbeats 2000000
namespace DL
open PySem L2
section
variable {X : CxT} {K : KT} {T : Nat → Bool} {e f : Expr} {te : TE} {we : We} {pos p apos : Pos} {x1 : Str} {t2 tx : TE} {wk wx : We} {j : Nat}
/-! ### d.get(k, x); d a slot -/
def kvsAt (j : Nat) (ρ : Sl) (k : List (Key × PD) → Prop) : Prop := match ρ[j]? with
  | some (.own (.dK kvs)) => k kvs
  | some (.dat (.dct kvs)) => k kvs
  | _ => False
def wDGet2 (j : Nat) (wk wx : We) : We := fun ρ Q => kvsAt j ρ fun _ => wk ρ fun r ρ1 => look r ρ1 fun d => ok d.key fun k => wx ρ1 fun rx ρ2 => warm rx ρ2 ∧ frz [rx.cool] ρ2 fun ds ρ3 => match ds with
  | [dx] => kvsAt j ρ3 fun kvs => Q (.dat ((getP kvs k).getD dx)) ρ3
  | _ => False
/-! ### k in d, d[k]; d a slot, as it is -/
def wDInA (neg : Bool) (wk : We) (j : Nat) : We := fun ρ Q => wk ρ fun r ρ1 => look r ρ1 fun d => ok d.key fun k => kvsAt j ρ1 fun kvs => Q (.dat (.bl (if neg then !(getP kvs k).isSome else (getP kvs k).isSome))) ρ1
def wDGetA (j : Nat) (wk : We) : We := fun ρ Q => kvsAt j ρ fun _ => wk ρ fun r ρ1 => look r ρ1 fun d => ok d.key fun k => kvsAt j ρ1 fun kvs => ok (getP kvs k) fun v => Q (.dat v) ρ1
/-! ### x = [comprehension by two fors] -/
end
end DL

set_option Elab.async false
set_option linter.all false
set_option maxRecDepth 100000
set_option maxHeartbeats 2000000
namespace DL
open PySem PyProof.Rows L2
/-! ### dicts of one's own by tuples of ints and texts -/
def keysOf : List PD → Option (List Key)
  | [] => some []
  | d :: ds => match d.key, keysOf ds with
    | some k, some ks => some (k :: ks)
    | _, _ => none
def getT (kds : List (List Key × PD)) (k : List Key) : Option PD := (kds.find? fun kv => decide (kv.1 = k)).map (·.2)
def putT (kds : List (List Key × PD)) (k : List Key) (d : PD) : List (List Key × PD) := if (kds.any fun kv => decide (kv.1 = k)) = true then kds.map (fun kv => if kv.1 = k then (kv.1, d) else kv) else kds ++ [(k, d)]
inductive RpKt (K : PySem.W.Frag) (G : Hp) : List (List Key × V) → List (List Key × PD) → Prop
  | nil : RpKt K G [] []
  | cons {k : List Key} {v : V} {vs : List (List Key × V)} {d : PD} {ds : List (List Key × PD)} : Rp K G v d → RpKt K G vs ds → RpKt K G ((k, v) :: vs) ((k, d) :: ds)
section
variable {K : PySem.W.Frag} {G : Hp}
theorem RpKt.of : ∀ {vs : List (List Key × V)} {ds : List (List Key × PD)}, vs.map (·.1) = ds.map (·.1) → RpAll K G (vs.map (·.2)) (ds.map (·.2)) → RpKt K G vs ds
  | [], [], _, _ => .nil
  | [], _ :: _, h, _ => by simp at h
  | _ :: _, [], h, _ => by simp at h
  | (k, v) :: vs, (k', d) :: ds, h, r => by
    simp only [List.map_cons, List.cons.injEq] at h
    obtain ⟨rfl, h⟩ := h
    cases r with
    | cons r rs => exact .cons r (RpKt.of h rs)
theorem RpKt.to : ∀ {vs : List (List Key × V)} {ds : List (List Key × PD)}, RpKt K G vs ds → vs.map (·.1) = ds.map (·.1) ∧ RpAll K G (vs.map (·.2)) (ds.map (·.2))
  | _, _, .nil => ⟨rfl, .nil⟩
  | _, _, .cons r rs => ⟨by simp only [List.map_cons, (RpKt.to rs).1], .cons r (RpKt.to rs).2⟩
theorem RpKt.ro {vs : List (List Key × V)} {ds : List (List Key × PD)} (r : RpKt K G vs ds) : RO K G (.dT vs) (.dT ds) := .dT r.to.1 r.to.2
theorem RpKt.length : ∀ {vs : List (List Key × V)} {ds : List (List Key × PD)}, RpKt K G vs ds → vs.length = ds.length
  | _, _, .nil => rfl
  | _, _, .cons _ r => congrArg (· + 1) (RpKt.length r)
theorem kt_any {k : List Key} : ∀ {vs : List (List Key × V)} {ds : List (List Key × PD)}, RpKt K G vs ds → (vs.any fun kv => decide (kv.1 = k)) = ds.any fun kv => decide (kv.1 = k)
  | _, _, .nil => rfl
  | _, _, .cons h r => by simp only [List.any_cons, kt_any r]
theorem kt_get {k : List Key} : ∀ {vs : List (List Key × V)} {ds : List (List Key × PD)}, RpKt K G vs ds → (valV vs k = none ∧ getT ds k = none) ∨ ∃ v d, valV vs k = some v ∧ getT ds k = some d ∧ Rp K G v d
  | _, _, .nil => .inl ⟨rfl, rfl⟩
  | (k', v) :: vs, (_, d) :: ds, .cons h r => by
    by_cases hk : k' = k
    · subst hk
      exact .inr ⟨v, d, by simp [valV], by simp [getT], h⟩
    · have e1 : valV ((k', v) :: vs) k = valV vs k := by unfold valV; rw [List.find?_cons_of_neg (by simpa using hk)]
      have e2 : getT ((k', d) :: ds) k = getT ds k := by unfold getT; rw [List.find?_cons_of_neg (by simpa using hk)]
      rw [e1, e2]
      exact kt_get r
theorem kt_map {k : List Key} {v : V} {d : PD} (h0 : Rp K G v d) : ∀ {vs : List (List Key × V)} {ds : List (List Key × PD)}, RpKt K G vs ds → RpKt K G (vs.map fun kv => if kv.1 = k then (kv.1, v) else kv) (ds.map fun kv => if kv.1 = k then (kv.1, d) else kv)
  | _, _, .nil => .nil
  | (k', _) :: _, _, .cons h r => by
    simp only [List.map_cons]
    by_cases hk : k' = k
    · rw [if_pos hk, if_pos hk]; exact .cons h0 (kt_map h0 r)
    · rw [if_neg hk, if_neg hk]; exact .cons h (kt_map h0 r)
theorem kt_app {k : List Key} {v : V} {d : PD} (h0 : Rp K G v d) : ∀ {vs : List (List Key × V)} {ds : List (List Key × PD)}, RpKt K G vs ds → RpKt K G (vs ++ [(k, v)]) (ds ++ [(k, d)])
  | _, _, .nil => .cons h0 .nil
  | _, _, .cons h r => .cons h (kt_app h0 r)
theorem kt_put {k : List Key} {v : V} {d : PD} (h0 : Rp K G v d) {vs : List (List Key × V)} {ds : List (List Key × PD)} (r : RpKt K G vs ds) : RpKt K G (putK vs k v) (putT ds k d) := by
  unfold putK putT
  rw [kt_any r]
  split
  · exact kt_map h0 r
  · exact kt_app h0 r
theorem keys_vals {H : Hp} {KT0 : KT} : ∀ {vs : List V} {ds : List PD} {ks : List Key}, VwAll KT0 G H vs ds → keysOf ds = some ks → vs = ks.map kV
  | _, _, _, .nil, h => by cases h; rfl
  | v :: vs, d :: ds, ks, .cons h r, e => by
    unfold keysOf at e
    cases hk : d.key with
    | none => rw [hk] at e; cases e
    | some k =>
      cases hs : keysOf ds with
      | none => rw [hk, hs] at e; cases e
      | some ks' =>
        rw [hk, hs] at e
        cases e
        rw [List.map_cons, ← keys_vals r hs, ← vw_key h hk]
end
def ownT (i : Nat) (ρ : Sl) (k : List (List Key × PD) → Prop) : Prop := match ρ[i]? with
  | some (.own (.dT kvs)) => k kvs
  | _ => False
theorem ownT_of {K : KT} {B : Addr → Prop} {G H : Hp} {σ : L2.St} {ρ : Sl} {j : Nat} {k : List (List Key × PD) → Prop} (R : Rep K B G H σ ρ) (h : ownT j ρ k) : ∃ kvs p vs, ρ[j]? = some (SD.own (.dT kvs)) ∧ σ[j]? = some (some (V.ref p)) ∧ H p = some (.dT vs) ∧ G p = none ∧ RpKt K.F G vs kvs ∧ k kvs := by
  unfold ownT at h
  split at h
  · rename_i kvs e
    obtain ⟨p, ho, h1, h2, h3, h4, h5⟩ := R.own _ _ e
    cases h5 with
    | dT ek r => exact ⟨kvs, p, _, e, h1, h2, h3, RpKt.of ek r, h⟩
  · exact h.elim
section
variable {X : CxT} {K : KT} {T : Nat → Bool} {e f : Expr} {es : List Expr} {te : TE} {we : We} {pos p apos tp : Pos} {x1 : Str} {t : TA} {wa : Wa} {tx : TE} {wx : We} {j : Nat}
/-- the key (a, b, ..): new, and at once stable -/
def wKey (wa : Wa) : Sl → (List Key → Sl → Prop) → Prop := fun ρ Q => wa ρ fun rs ρ1 => looks rs ρ1 fun ds => ok (keysOf ds) fun ks => ds.length ≤ sizeLine ∧ Q ks ρ1
theorem VwAll.length {K0 : KT} {G H : Hp} : ∀ {vs : List V} {ds : List PD}, VwAll K0 G H vs ds → vs.length = ds.length
  | _, _, .nil => rfl
  | _, _, .cons _ r => congrArg (· + 1) (VwAll.length r)
theorem key_at (h : WAa K t wa) {B : Addr → Prop} {G H : Hp} {σ : L2.St} {ρ : Sl} {C : List Key → Sl → Prop} {QV : VK} (R : Rep K B G H σ ρ) (q : wKey wa ρ C)
    (k : ∀ (n : Addr) (ks : List Key) (G' H' : Hp) (ρ' : Sl), Stp B G H G' H' → Rep K B G' H' σ ρ' → G' n = some (.tup (ks.map kV)) → C ks ρ' → QV (.ref n) H') : tTup t σ H QV := by
  refine h B G H σ ρ _ _ R q fun vs G1 H1 ρ1 rs S1 R1 rr q1 => ?_
  obtain ⟨ds, ed, q1⟩ := ok_some q1
  obtain ⟨ks, ek, hz, q1⟩ := ok_some q1
  have hv := RRs.vw R1 rr ed
  have ev := keys_vals hv ek
  refine ⟨by rw [hv.length]; exact hz, fun n hn => ?_⟩
  have gp : G1 n = none := R1.gh.free R1.tb hn
  have nb : ¬ B n := fun z => (R1.bh n z).no hn
  have ex : Ex G1 (upd G1 n (.tup vs)) := Ex.new gp
  have S2 : Stp B G1 H1 (upd G1 n (.tup vs)) (upd H1 n (.tup vs)) := ⟨ex, fun a ps h => by rw [upd_ne (ne_of_none h gp)]; exact h, fun a ps h => mark_old nt_tup h, fun a o hb h _ => by rw [upd_ne (nb_ne nb hb)]; exact h, fun a _ hb _ _ => upd_ne (nb_ne nb hb)⟩
  have R2 : Rep K B (upd G1 n (.tup vs)) (upd H1 n (.tup vs)) σ ρ1 := by
    refine ⟨R1.gh.both gp, (R1.tb.new hn).mark nt_tup, R1.z.step S2, fun a hb => ?_, R1.len, fun i d hi => ?_, fun i u hi => ?_, R1.sep⟩
    · exact (R1.bh a hb).upd (nb_ne nb hb)
    · obtain ⟨v, h1, h2⟩ := R1.dat i d hi
      exact ⟨v, h1, h2.mono ex⟩
    · obtain ⟨q, hq, h1, h2, h3, h4, h5⟩ := R1.own i u hi
      have z := ne_of_none h2 hn
      exact ⟨q, hq, h1, by rw [upd_ne z]; exact h2, by rw [upd_ne z]; exact h3, h4, h5.mono ex⟩
  exact k n ks _ _ ρ1 (S1.trans S2) R2 (by rw [upd_same, ev]) q1
/-- {} -/
def wDnewT : We := fun ρ Q => Q (.own (.dT [])) ρ
theorem de_dnewT : DE X (.Dict [] [] pos) tDNewT wDnewT := ⟨pe_dnewT, fun B G H σ ρ Q QV R q k n hn =>
  Gv.new (K := X.K) (Q := fun r => Q r ρ) (fun v G' H' r S3 R3 rr3 q3 => k v G' H' ρ r S3 R3 rr3 q3) R hn (RpKt.nil.ro) q⟩
/-- (a, b) in d, (a, b) not in d -/
def wDInT (neg : Bool) (wa : Wa) (j : Nat) : We := fun ρ Q => wKey wa ρ fun k ρ1 => ownT j ρ1 fun kvs => Q (.dat (.bl (if neg then !(getT kvs k).isSome else (getT kvs k).isSome))) ρ1
theorem getT_some {K0 : PySem.W.Frag} {G : Hp} {k : List Key} {vs : List (List Key × V)} {ds : List (List Key × PD)} (r : RpKt K0 G vs ds) : (valV vs k).isSome = (getT ds k).isSome := by
  rcases kt_get (k := k) r with ⟨a, b⟩ | ⟨v, d, a, b, _⟩ <;> rw [a, b] <;> rfl
/-- d.get((a, b), x) -/
def wDGetT (j : Nat) (wa : Wa) (wx : We) : We := fun ρ Q => ownT j ρ fun _ => wKey wa ρ fun k ρ1 => wx ρ1 fun rx ρ2 => warm rx ρ2 ∧ frz [rx.cool] ρ2 fun ds ρ3 => match ds with
  | [dx] => ownT j ρ3 fun kvs => Q (.dat ((getT kvs k).getD dx)) ρ3
  | _ => False
/-- d[a, b] = e -/
def wDPutT (j : Nat) (wa : Wa) (wv : We) : Ws := fun O ρ => wv ρ fun r ρ1 => warm r ρ1 ∧ frz [r.cool] ρ1 fun ds ρ2 => ownT j ρ2 fun _ => wKey wa ρ2 fun k ρ3 => ownT j ρ3 fun kvs => match ds with
  | [d] => kvs.length < sizeLine ∧ O.nx (ρ3.set j (.own (.dT (putT kvs k d))))
  | _ => False
theorem ws_dputT {tv : TE} {wv : We} (hv : WE K tv wv) (hk : WAa K t wa) : WSs K T (sDPut (tVar j) (tTup t) tv) (wDPutT j wa wv) := fun B G H σ S0 ρ O D R P q kn kr kb kc =>
  hv B G H σ ρ _ _ R q fun v G1 H1 ρ1 r S1 R1 rr ⟨c1, q1⟩ => by
    obtain ⟨G1', S1', R1', rr1', cc, ec⟩ := rr.cool R1 c1
    obtain ⟨⟨ds, ρ2⟩, e, q1⟩ := ok_some q1
    obtain ⟨G2, S2, R2, ra⟩ := frz_all R1' (.cons rr1' cc .nil) e
    obtain ⟨_, p, _, e0, hs, _, _, _, q1⟩ := ownT_of R2 q1
    refine ⟨_, hs, key_at hk R2 q1 fun n ks G3 H3 ρ3 S3 R3 gn q3 => ?_⟩
    obtain ⟨kvs, p', vs, ek, hs', hp, gp, rkv, q3⟩ := ownT_of R3 q3
    rw [hs] at hs'; cases hs'
    match ds, ra, q3 with
    | [d], ra, ⟨hz, q3⟩ =>
      obtain ⟨w, ew, rv⟩ := ra.one
      cases ew
      obtain ⟨R4, S4⟩ := R3.write (ho' := .dT (putK vs ks v)) ek hs (kt_put (rv.mono S3.g) rkv).ro
      refine ⟨p, _, rfl, .inr ⟨vs, ks, n, hp, rfl, R3.gh _ _ gn nt_tup, by rw [rkv.length]; exact hz, rfl⟩, kn G3 _ σ _ ((((S1.trans S1').trans S2).trans S3).trans S4) R4 P q3⟩
theorem ds_dputT {tv : TE} {wv : We} {value : Expr} {pos' : Pos} {x2} (hu : X.cx.A.units + 1 < cLine) (hv : DE X value tv wv) (hd : DE X (.Name x1 p) (tVar j) (wVar j)) (hk : DA X es t wa) (hs : swapsWith value (some (.Subscript (.Name x1 p) (.Tuple es x2 tp) pos')) pos.line X.env = pure false := by rfl) :
    DS X T (.Assign [.Subscript (.Name x1 p) (.Tuple es x2 tp) pos'] value pos) (sDPut (tVar j) (tTup t) tv) (wDPutT j wa wv) := ⟨ps_dput hu hd.pe (pe_tup hk.pa) hv.pe hs, ws_dputT hv.we hk.wa⟩
end
end DL

set_option Elab.async false
set_option linter.all false
set_option maxRecDepth 100000
set_option maxHeartbeats 2000000
namespace DL
open PySem PySem.Calls PyProof.Rows L2
/-! ### isinstance(e, C), C a class of the program's -/
def tys : List String := ["NoneType", "bool", "int", "str", "list", "tuple", "dict"]
def isD (C : Addr) : PD → Option Bool
  | .ins C' _ => if C' = C then some true else none
  | d => d.ty.map fun _ => false
/-- what isinstance and == ask of an own class -/
structure DvC (K : PySem.W.Frag) (C : Addr) : Prop where
  ins : C8.InsC K C
  no : ∀ T ∈ tys, PySem.W.kitOne K (.type T) (.ref C) = some false
  nf : ∀ T ∈ tys, PySem.W.notFirst K C (.type T) = true
section
variable {X : CxT} {K : KT} {e : Expr} {te : TE} {we : We} {pos p p2 : Pos} {x : Str} {C : Addr}
def wIsD (C : Addr) (we : We) : We := fun ρ Q => we ρ fun r ρ1 => warm r ρ1 ∧ look r ρ1 fun d => ok (isD C d) fun b => Q (.dat (.bl b)) ρ1
def tIsD (K : PySem.W.Frag) (C : Addr) (te : TE) : TE := tCB (rIsi K) (tCons te (tCons (tC (.ref C)) tNil))
end
end DL

set_option Elab.async false
set_option linter.all false
set_option maxRecDepth 100000
set_option maxHeartbeats 2000000
namespace DL
open PySem PySem.Calls PyProof.Rows L2
/-! ### a == b, a != b by an own __eq__ -/
section
variable {prog : Program} {w : World} {A : Around} {E : Value → Shared → Prop} {s : Shared} {K : PySem.W.Frag} {x C f : Addr} {ox : Obj} {od : Option Obj} {b tb : Value} {h₀ : Heap} {L : Addr} {m : Str → Option Value}
open PySem.W in
open PySem.W Builtin in
open PySem.W in
end
section
variable {X : CxT} {K : KT} {a b : Expr} {ta tb : TE} {wA wB' : We} {pos : Pos} {C : Addr}
def tEqO (neg : Bool) (KF : PySem.W.Frag) (Ts : List (Addr × Str)) (C : Addr) (F : Fd) (ta tb : TE) : TE := fun σ H Q => ta σ H fun x H1 => tb σ H1 fun y H2 => ∃ a dx fs t, x = .ref a ∧ H2 a = some (.ins C dx fs) ∧ TyX KF H2 y t ∧ PySem.W.notFirst KF C t = true ∧
  SpG KF Ts 2 F [.ref a, y] H2 (fun v H3 => ∃ r : Bool, v = .bl r ∧ Q (.bl (if neg = true then !r else r)) H3) (fun _ _ _ => False)
def wEqO (neg : Bool) (C : Addr) (F : Fd) (wA wB' : We) : We := fun ρ Q => wCons wA (wCons wB' wNil) ρ fun rs ρ1 => frz rs ρ1 fun ds ρ2 => match ds with
  | [.ins C' fs, d2] => C' = C ∧ (isD C d2).isSome = true ∧ F [.dat (.ins C fs), .dat d2] (fun r _ => ∃ b : Bool, r = .dat (.bl b) ∧ Q (.dat (.bl (if neg = true then !b else b))) ρ2) noX
  | _ => False
end
end DL

set_option Elab.async false
set_option linter.all false
set_option maxRecDepth 100000
set_option maxHeartbeats 2000000
namespace DL
open PySem PySem.Calls PyProof.Rows L2
/-! ### C(a=e) -/
/-- a class that can be made by its name, its one argument by its own -/
structure MkrK (P : Program) (w : World) (KF : PySem.W.Frag) (Ts : List (Addr × Str)) (mg : Str → Option Value) (base : Heap) (k : Nat) (x : Str) (C : Addr) (f1 f2 a : Str) (F : Fd) : Prop where
  ex : ∃ (fI : Addr) (fd : FuncData) (ps : List Str), mg x = some (.ref C) ∧ L2.Mk KF C fI ∧ IniG P w KF mg base k fI fd ps (spIni KF Ts C f1 f2 F) ∧ ∀ (s : Shared) (u v : Value), BindsTo s fd ⟨[u], [(a, v)]⟩ (ps.zip [u, v])
def tOne (t : TA) : TA := fun σ H Q => t σ H fun vs H1 => vs.length = 1 ∧ Q vs H1
def wOne (w : Wa) : Wa := fun ρ Q => w ρ fun rs ρ1 => rs.length = 1 ∧ Q rs ρ1
section
variable {X : CxT} {K : KT} {e : Expr} {kws : List Keyword} {t : TA} {wa : Wa} {pos p : Pos} {x a : Str} {C : Addr}
end
/-! ### == and != by an own __eq__: all by its own name -/
section
variable {X : CxT} {a b : Expr} {ta tb : TE} {wA wB' : We} {pos p p2 : Pos} {C : Addr} {KF : PySem.W.Frag} {Ts : List (Addr × Str)} {k : Nat} {ps : List Str} {F : Fd} {x : Str}
end
/-! ### e[::-1] -/
section
variable {X : CxT} {K : KT} {e : Expr} {te : TE} {we : We} {pos p1 p2 p3 : Pos} {k0 : Nat}
def wRevL (we : We) : We := fun ρ Q => we ρ fun r ρ1 => look r ρ1 fun d => match d with
  | .lst xs => Q (.own (.lst xs.reverse)) ρ1
  | _ => False
end
end DL

set_option Elab.async false
set_option linter.all false
set_option maxRecDepth 100000
set_option maxHeartbeats 2000000
namespace DL
open PySem L2
/-! ### a list comprehension over a list of one's own that stays so -/
section
variable {X : CxT} {K : KT} {e tg : Expr} {es : List Expr} {te : TE} {we : We} {pos : Pos}
/-- the slot j still holds this list -/
def holds (j : Nat) (xs : List PD) (ρ : Sl) : Prop := ρ[j]? = some (.own (.lst xs))
def compLO (j : Nat) (xs : List PD) (vs : List Nat) (wg : Wg) (wt : Wt) (we : We) : List PD → List PD → (List PD → Sl → Prop) → Sl → Prop
  | [], acc, Q, ρ => holds j xs ρ ∧ Q acc ρ
  | d :: ds, acc, Q, ρ => holds j xs ρ ∧ wg d ρ fun ρ1 => wt ρ1 fun b ρ2 => match b with
    | true => we ρ2 fun r ρ3 => warm r ρ3 ∧ frz [r.cool] ρ3 fun es ρ4 => match es with
      | [y] => acc.length < sizeLine ∧ compLO j xs vs wg wt we ds (acc ++ [y]) Q (wipeS ρ4 vs)
      | _ => False
    | false => compLO j xs vs wg wt we ds acc Q (wipeS ρ2 vs)
def wLcO (j : Nat) (vs : List Nat) (wg : Wg) (wt : Wt) (we : We) : We := fun ρ Q => match ρ[j]? with
  | some (.own (.lst ds)) => noOwn ρ vs = true ∧ compLO j ds vs wg wt we ds [] (fun acc ρ2 => Q (.own (.lst acc)) (restore ρ vs ρ2)) (wipeS ρ vs)
  | _ => False
/-- what an iterator over the list at p yields, as long as the slot owns it -/
theorem own_it {B : Addr → Prop} {G H : Hp} {σ : L2.St} {ρ : Sl} {j : Nat} {p : Addr} {ds : List PD} (R : Rep K B G H σ ρ) (h : holds j ds ρ) (hp : σ[j]? = some (some (V.ref p))) : (∀ i, ds.length ≤ i → (Itl K p).stop i H) ∧
    ∀ i d, ds[i]? = some d → (Itl K p).go i H ∧ ∀ x H', (Itl K p).yld i H x H' → ∃ G', Stp B G H G' H' ∧ Rep K B G' H' σ ρ ∧ Rp K G' x d := by
  obtain ⟨q, ho, h1, h2, h3, h4, h5⟩ := R.own j _ h
  rw [hp] at h1; cases h1
  cases h5 with
  | lst r =>
    rename_i vs
    have hq : SqL K H p vs := SqL.of h2
    refine ⟨fun i hi => ⟨vs, hq, by rw [r.length]; exact hi⟩, fun i d hd => ?_⟩
    obtain ⟨v, hv, rv⟩ := r.get hd
    refine ⟨⟨vs, v, hq, hv⟩, fun x H' ⟨eH, hx⟩ => ?_⟩
    subst eH
    have := hx vs hq
    rw [hv] at this; cases this
    exact ⟨G, .refl, R, rv⟩
theorem we_lcO {j : Nat} {vs : List Nat} {g : TG} {wg : Wg} {tt : TT} {wt : Wt} (hv : vs.Nodup) (hj : j ∉ vs) (hg : WGg K T0 g wg) (ho : GOnly vs g) (ht : WTt K tt wt) (he : WE K te we) : WE K (tLc (iSeq K (tVar j)) g tt te vs) (wLcO j vs wg wt we) := fun B G H1 σ ρ1 Q QV R1 q k => by
    obtain ⟨ds, hds, no, q1⟩ : ∃ ds, ρ1[j]? = some (.own (.lst ds)) ∧ noOwn ρ1 vs = true ∧ compLO j ds vs wg wt we ds [] (fun acc ρ2 => Q (.own (.lst acc)) (restore ρ1 vs ρ2)) (wipeS ρ1 vs) := by
      unfold wLcO at q
      split at q
      · rename_i ds h; exact ⟨ds, h, q.1, q.2⟩
      · exact q.elim
    obtain ⟨p, ho, e1, e2, e3, e4, e5⟩ := R1.own j _ hds
    obtain ⟨us, rfl⟩ : ∃ us, ho = .lst us := by cases e5 with | lst r => exact ⟨_, rfl⟩
    have hpw : (L2.wipe σ vs)[j]? = some (some (V.ref p)) := by rw [wipe_get hj]; exact e1
    refine ⟨_, e1, p, rfl, .inl ⟨⟨us, SqL.of e2⟩, ?_⟩⟩
    intro D hD
    have gD : G D = none := R1.gh.free R1.tb hD
    have nB : ¬ B D := fun z => (R1.bh D z).no hD
    have nS : ∀ (i : Nat) (u : OD), ρ1[i]? = some (SD.own u) → σ[i]? ≠ some (some (V.ref D)) := fun i u hi hz => by
      obtain ⟨q, hq, h1, h2, _⟩ := R1.own i u hi
      rw [hz] at h1; cases h1; rw [hD] at h2; cases h2
    have R1' : Rep K B G (upd H1 D (.lst [])) σ ρ1 := R1.aside (.inl hD) gD nB nS
    -- what stands between two turns
    let Inv : List PD → Nat → Hp → Prop := fun acc i H' => ∃ G' ρ' vals, Stp B G H1 G' H' ∧ Ex G G' ∧ Rep K B G' H' (L2.wipe σ vs) ρ' ∧ H' D = some (.lst vals) ∧ G' D = none ∧ RpAll K G' vals acc ∧
      (∀ (i : Nat) (u : OD), ρ'[i]? = some (SD.own u) → (L2.wipe σ vs)[i]? ≠ some (some (V.ref D))) ∧ compLO j ds vs wg wt we (ds.drop i) acc (fun acc ρ2 => Q (.own (.lst acc)) (restore ρ1 vs ρ2)) ρ'
    refine ⟨fun i m H' => m = ds.length - i ∧ i ≤ ds.length ∧ ∃ acc, Inv acc i H', ⟨_, rfl, Nat.zero_le _, [], G, wipeS ρ1 vs, [], ⟨Ex.refl _, fun _ _ h => h, fun _ _ h => h, fun a o hb h _ => by rw [upd_ne (nb_ne nB hb)]; exact h, fun _ _ _ _ _ => rfl⟩, Ex.refl _, R1'.wipe vs, upd_same, gD, .nil, fun i u hi hz => ?_, q1⟩, ?_⟩
    · obtain ⟨q, hq, h1, h2, h3, h4, h5⟩ := (R1'.wipe vs).own i u hi
      obtain ⟨q', hq', g1, g2, _⟩ := (R1.wipe vs).own i u hi
      rw [hz] at h1 g1; cases h1; cases g1
      rw [hD] at g2; cases g2
    rintro i m H' ⟨rfl, hi, acc, G', ρ', vals, S', e', R', hDv, gD', ra, nS', q'⟩
    have hh : holds j ds ρ' := by
      by_cases hlt : i < ds.length
      · rw [List.drop_eq_getElem_cons hlt] at q'; exact q'.1
      · rw [List.drop_eq_nil_of_le (by omega)] at q'; exact q'.1
    obtain ⟨hstop, hgo⟩ := own_it R' hh hpw
    by_cases hlt : i < ds.length
    · have hd : ds[i]? = some ds[i] := List.getElem?_eq_getElem hlt
      obtain ⟨go, _⟩ := hgo i _ hd
      refine .inr ⟨go, fun H2 => ∃ acc, Inv acc (i + 1) H2, fun H2 h2 => ⟨_, by omega, rfl, hlt, h2⟩, fun x H2 hy => ?_⟩
      rw [List.drop_eq_getElem_cons hlt] at q'
      replace q' := q'.2
      -- D is kept while the turn goes
      let B' : Addr → Prop := fun a => B a ∨ a = D
      have RB : Rep K B' G' H' (L2.wipe σ vs) ρ' := by
        refine ⟨R'.gh, R'.tb, R'.z.more fun _ z => .inl z, fun a ha => ?_, R'.len, R'.dat, fun k u hk => ?_, R'.sep⟩
        · rcases ha with ha | rfl
          · exact R'.bh a ha
          · exact ⟨_, hDv, nt_lst⟩
        · obtain ⟨q, hq, h1, h2, h3, h4, h5⟩ := R'.own k u hk
          exact ⟨q, hq, h1, h2, h3, fun z => z.elim h4 fun z => nS' k u hk (by rw [h1, z]), h5⟩
      obtain ⟨_, hgoB⟩ := own_it RB hh hpw
      obtain ⟨G2, S2, R2, rx⟩ := (hgoB i _ hd).2 x H2 hy
      have q2 : g x (L2.wipe σ vs) H2 fun σ2 H3 => H3 = H2 ∧ ∃ ρ2, Rep K B' G2 H2 σ2 ρ2 ∧ wt ρ2 fun b ρ2 => match b with
        | true => we ρ2 fun r ρ3 => warm r ρ3 ∧ frz [r.cool] ρ3 fun es ρ4 => match es with
          | [y] => acc.length < sizeLine ∧ compLO j ds vs wg wt we (ds.drop (i + 1)) (acc ++ [y]) (fun acc ρ2 => Q (.own (.lst acc)) (DL.restore ρ1 vs ρ2)) (wipeS ρ4 vs)
          | _ => False
        | false => compLO j ds vs wg wt we (ds.drop (i + 1)) acc (fun acc ρ2 => Q (.own (.lst acc)) (DL.restore ρ1 vs ρ2)) (wipeS ρ2 vs) :=
        hg B' G2 H2 (L2.wipe σ vs) [] ρ' x _ _ _ R2 pn0 rx q' fun σ' ρ2 R3 _ q3 => ⟨rfl, ρ2, R3, q3⟩
      refine ho x (L2.wipe σ vs) H2 _ _ (fun σ2 H3 w2 q3 => ?_) q2
      have w3 : L2.wipe σ2 vs = L2.wipe σ vs := w2.trans wipe_wipe
      obtain ⟨rfl, ρ2, R3, q3⟩ := q3
      refine ⟨w3, ht B' G2 H3 σ2 ρ2 _ _ R3 q3 fun b G4 H4 ρ4 S4 R4 q4 => ?_⟩
      have SB := S2.trans S4
      cases b with
      | false =>
        rw [if_neg Bool.false_ne_true]
        have RW := R4.wipe vs
        rw [w3] at RW
        exact ⟨acc, G4, _, vals, S'.trans (SB.weak fun _ z => .inl z), e'.trans SB.g, RW.weak R'.z.b fun _ z => .inl z, SB.h _ _ (.inr rfl) hDv nt_lst, (SB.n _ _ (.inr rfl) hDv trivial).trans gD', ra.mono SB.g, fun k u hk hz => by
          obtain ⟨q, hq, h1, _, _, h4, _⟩ := RW.own k u hk
          rw [hz] at h1; cases h1; exact h4 (.inr rfl), q4⟩
      | true =>
        rw [if_pos rfl]
        refine he B' G4 H4 σ2 ρ4 _ _ R4 q4 fun y G5 H5 ρ5 r S5 R5 rr ⟨c5, q5⟩ => ?_
        obtain ⟨G5', S5', R5', rr5', cc, ec⟩ := rr.cool R5 c5
        obtain ⟨⟨es', ρ6⟩, ee, q5⟩ := ok_some q5
        obtain ⟨G6, S6, R6, r6⟩ := frz_all R5' (.cons rr5' cc .nil) ee
        have SC := ((SB.trans S5).trans S5').trans S6
        have hD5 : H5 D = some (.lst vals) := SC.h _ _ (.inr rfl) hDv nt_lst
        have gD6 : G6 D = none := (SC.n _ _ (.inr rfl) hDv trivial).trans gD'
        match es', r6, q5 with
        | [yd], r6, ⟨hz, q5⟩ =>
          have RW := R6.wipe vs
          rw [w3] at RW
          have nSW : ∀ (k : Nat) (u : OD), (wipeS ρ6 vs)[k]? = some (SD.own u) → (L2.wipe σ vs)[k]? ≠ some (some (V.ref D)) := fun k u hk hz => by
            obtain ⟨q, hq, h1, _, _, h4, _⟩ := RW.own k u hk
            rw [hz] at h1; cases h1; exact h4 (.inr rfl)
          obtain ⟨yv, eyv, ryv⟩ := r6.one
          cases eyv
          refine ⟨vals, hD5, by rw [ra.length]; exact hz, acc ++ [yd], G6, _, vals ++ [y], (S'.trans (SC.weak fun _ z => .inl z)).trans ⟨Ex.refl _, fun _ _ h => h, fun _ _ h => h, fun a o hb h _ => by rw [upd_ne (nb_ne nB hb)]; exact h, fun _ _ _ _ _ => rfl⟩, e'.trans SC.g, (RW.weak R'.z.b fun _ z => .inl z).aside (.inr ⟨_, hD5⟩) gD6 nB nSW, upd_same, gD6, (ra.mono SC.g).append (.cons ryv .nil), nSW, q5⟩
    · have e : i = ds.length := by omega
      subst e
      rw [List.drop_length] at q'
      replace q' := q'.2
      refine .inl ⟨hstop _ (Nat.le_refl _), ?_⟩
      have RB : Rep K (fun a => B a ∨ a = D) G' H' (L2.wipe σ vs) ρ' := by
        refine ⟨R'.gh, R'.tb, R'.z.more fun _ z => .inl z, fun a ha => ?_, R'.len, R'.dat, fun k u hk => ?_, R'.sep⟩
        · rcases ha with ha | rfl
          · exact R'.bh a ha
          · exact ⟨_, hDv, nt_lst⟩
        · obtain ⟨q, hq, h1, h2, h3, h4, h5⟩ := R'.own k u hk
          exact ⟨q, hq, h1, h2, h3, fun z => z.elim h4 fun z => nS' k u hk (by rw [h1, z]), h5⟩
      have RF := Rep.restore R1 e' hv no RB
      refine k _ G' H' _ _ S' (RF.weak R'.z.b fun _ z => .inl z) (.own hDv gD' nB (.lst ra) fun k u hk hz => ?_) q'
      obtain ⟨q, hq, h1, _, _, h4, _⟩ := RF.own k u hk
      rw [hz] at h1; cases h1; exact h4 (.inr rfl)
theorem de_lcO {j : Nat} {elt : Expr} {x : Str} {npos : Pos} {ifs : List Expr} {scope : Scope} {own : List (Str × Nat)} {g : TG} {wg : Wg} {tt : TT} {wt : Wt} (hc : X.calm = true) (hN : X.N.Nodup) (hv : (own.map (·.2)).Nodup) (hj : j ∉ own.map (·.2)) (hi : DE X (.Name x npos) (tVar j) (wVar j)) (okb : BlkOk X.N X.env.scope scope own)
    (hg : ∀ (s : Shared) (H : Hp) (C : Addr) (cl : List (Str × Addr)) (fp : List Addr), DG (X.blk s H scope (compEnvC scope cl C X.env) fp) T0 tg g wg) (ho : GOnly (own.map (·.2)) g)
    (ht : ∀ (s : Shared) (H : Hp) (C : Addr) (cl : List (Str × Addr)) (fp : List Addr), PTs (X.blk s H scope (compEnvC scope cl C X.env) fp) ifs tt) (hw : WTt X.K tt wt)
    (he : ∀ (s : Shared) (H : Hp) (C : Addr) (cl : List (Str × Addr)) (fp : List Addr), DE (X.blk s H scope (compEnvC scope cl C X.env) fp) elt te we) (hs : ∀ y, foldedSetIterable (.Name x npos) X.env y = pure y := by intro _; rfl) :
    DE X (.ListComp elt [⟨tg, .Name x npos, ifs, 0⟩] scope pos) (tLc (iSeq X.K (tVar j)) g tt te (own.map (·.2))) (wLcO j (own.map (·.2)) wg wt we) :=
  ⟨pe_lc hc hN (pi_seq hi.pe) okb (fun s H C cl fp => (hg s H C cl fp).pg) ht (fun s H C cl fp => (he s H C cl fp).pe) hs, we_lcO hv hj (hg X.s_0 X.H_0 0 [] []).wg ho hw (he X.s_0 X.H_0 0 [] []).we⟩
end
end DL

set_option Elab.async false
set_option linter.all false
set_option maxRecDepth 100000
set_option maxHeartbeats 2000000
namespace DL
open PySem L2
/-! ### lists of one's own, kept in a list: [f(..) for place in ..], then [g of pot for pot in pots] -/
section
variable {K : KT}
theorem Rep.more {B P : Addr → Prop} {G H : Hp} {σ : L2.St} {ρ : Sl} (R : Rep K B G H σ ρ) (t : ∀ a, P a → Tr H a) (n : ∀ (i : Nat) (u : OD) (p : Addr), ρ[i]? = some (SD.own u) → σ[i]? = some (some (V.ref p)) → ¬ P p) : Rep K (fun a => B a ∨ P a) G H σ ρ := by
  refine ⟨R.gh, R.tb, R.z.more fun _ z => .inl z, fun a ha => ?_, R.len, R.dat, fun j u hj => ?_, R.sep⟩
  · rcases ha with ha | ha
    · exact R.bh a ha
    · exact t a ha
  · obtain ⟨q, hq, h1, h2, h3, h4, h5⟩ := R.own j u hj
    exact ⟨q, hq, h1, h2, h3, fun z => z.elim h4 (n j u q hj h1), h5⟩
structure Kept (K : KT) (B : Addr → Prop) (G H : Hp) (ps : List Addr) (xss : List (List PD)) : Prop where
  len : ps.length = xss.length
  nd : ps.Nodup
  it : ∀ (i : Nat) (p : Addr) (xs : List PD), ps[i]? = some p → xss[i]? = some xs → ∃ vs, H p = some (.lst vs) ∧ G p = none ∧ ¬ B p ∧ RpAll K G vs xs
theorem Kept.mem {B : Addr → Prop} {G H : Hp} {ps : List Addr} {xss : List (List PD)} (k : Kept K B G H ps xss) {p : Addr} (h : p ∈ ps) : ∃ vs, H p = some (.lst vs) ∧ G p = none ∧ ¬ B p := by
  obtain ⟨i, hi, e⟩ := List.getElem_of_mem h
  have hx : i < xss.length := by rw [← k.len]; exact hi
  obtain ⟨vs, h1, h2, h3, _⟩ := k.it i p xss[i] (by rw [List.getElem?_eq_getElem hi, e]) (List.getElem?_eq_getElem hx)
  exact ⟨vs, h1, h2, h3⟩
theorem Kept.step {B B1 : Addr → Prop} {G H G' H' : Hp} {ps : List Addr} {xss : List (List PD)} (k : Kept K B G H ps xss) (S : Stp B1 G H G' H') (h : ∀ p ∈ ps, B1 p) : Kept K B G' H' ps xss := by
  refine ⟨k.len, k.nd, fun i p xs hp hx => ?_⟩
  obtain ⟨vs, h1, h2, h3, h4⟩ := k.it i p xs hp hx
  have hb := h p (List.mem_of_getElem? hp)
  exact ⟨vs, S.h _ _ hb h1 nt_lst, (S.n _ _ hb h1 trivial).trans h2, h3, h4.mono S.g⟩
theorem Kept.upd {B : Addr → Prop} {G H : Hp} {ps : List Addr} {xss : List (List PD)} {D : Addr} {o : HO} (k : Kept K B G H ps xss) (h : D ∉ ps) : Kept K B G (upd H D o) ps xss := by
  refine ⟨k.len, k.nd, fun i p xs hp hx => ?_⟩
  obtain ⟨vs, h1, h2, h3, h4⟩ := k.it i p xs hp hx
  exact ⟨vs, by rw [upd_ne (fun z => h (by rw [← z]; exact List.mem_of_getElem? hp))]; exact h1, h2, h3, h4⟩
theorem Kept.snoc {B : Addr → Prop} {G H : Hp} {ps : List Addr} {xss : List (List PD)} {p : Addr} {vs : List V} {xs : List PD} (k : Kept K B G H ps xss) (hn : p ∉ ps) (h1 : H p = some (.lst vs)) (h2 : G p = none) (h3 : ¬ B p) (h4 : RpAll K G vs xs) : Kept K B G H (ps ++ [p]) (xss ++ [xs]) := by
  refine ⟨by rw [List.length_append, List.length_append, k.len]; rfl, ?_, fun i q ys hq hy => ?_⟩
  · rw [List.nodup_append]
    refine ⟨k.nd, by simp, fun a ha b hb => ?_⟩
    rw [List.mem_singleton] at hb
    subst hb
    exact fun z => hn (z ▸ ha)
  · by_cases hi : i < ps.length
    · rw [List.getElem?_append_left hi] at hq
      rw [List.getElem?_append_left (by rw [← k.len]; exact hi)] at hy
      exact k.it i q ys hq hy
    · rw [List.getElem?_append_right (by omega)] at hq
      rw [List.getElem?_append_right (by rw [← k.len]; omega), ← k.len] at hy
      cases hj : i - ps.length with
      | zero =>
        rw [hj] at hq hy
        have hq : p = q := Option.some.inj hq
        have hy : xs = ys := Option.some.inj hy
        subst hq hy
        exact ⟨vs, h1, h2, h3, h4⟩
      | succ n => rw [hj] at hq; cases hq
theorem Kept.tail {B : Addr → Prop} {G H : Hp} {p : Addr} {xs : List PD} {ps : List Addr} {xss : List (List PD)} (k : Kept K B G H (p :: ps) (xs :: xss)) : Kept K B G H ps xss :=
  ⟨by simpa using k.len, (List.nodup_cons.mp k.nd).2, fun i q ys hq hy => k.it (i + 1) q ys (by simpa using hq) (by simpa using hy)⟩
/-- the first of them -/
def potL1 (v : Nat) (we : We) : List PD → List (List PD) → (List (List PD) → Sl → Prop) → Sl → Prop
  | [], xss, Q, ρ => Q xss ρ
  | d :: ds, xss, Q, ρ => we (ρ.set v (.dat d)) fun r ρ3 => match r with
    | .own (.lst xs) => xss.length < sizeLine ∧ potL1 v we ds (xss ++ [xs]) Q (wipeS ρ3 [v])
    | _ => False
def potL2 (v : Nat) (we : We) : List (List PD) → List PD → (List PD → Sl → Prop) → Sl → Prop
  | [], acc, Q, ρ => Q acc ρ
  | xs :: xss, acc, Q, ρ => we (ρ.set v (.own (.lst xs))) fun r ρ3 => warm r ρ3 ∧ frz [r.cool] ρ3 fun es ρ4 => match es with
    | [y] => acc.length < sizeLine ∧ potL2 v we xss (acc ++ [y]) Q (wipeS ρ4 [v])
    | _ => False
/-- pots = [..]; return all([.. for pot in pots]) -/
def wPots (wi : Wi) (v : Nat) (we : We) (p v2 : Nat) (we2 : We) : Ws := fun O ρ => p < ρ.length ∧ wi ρ fun ds ρ1 => noOwn ρ1 [v] = true ∧ potL1 v we ds [] (fun xss ρ2 => (noOwn ((restore ρ1 [v] ρ2).set p .emp) [v2] = true ∧
  potL2 v2 we2 xss [] (fun acc ρ3 => dAll [.lst acc] fun r => O.rt r (restore ((restore ρ1 [v] ρ2).set p .emp) [v2] ρ3)) (wipeS ((restore ρ1 [v] ρ2).set p .emp) [v2]))) (wipeS ρ1 [v])
end
end DL

set_option Elab.async false
set_option linter.all false
set_option maxRecDepth 100000
set_option maxHeartbeats 2000000
namespace DL
open PySem L2
/-! ### a tree of lists that is built: X = [[[] for ..] for ..], then X[i][j].append(x), then only read -/
abbrev Tree := List (List (List PD))
def treeP (χ : Tree) : PD := .lst (χ.map fun row => .lst (row.map PD.lst))
section
variable {K : KT} {B : Addr → Prop} {G H : Hp}
theorem Kept.app {ps : List Addr} {row : List (List PD)} {j : Nat} {p : Addr} {xs : List PD} {vs : List V} {u : V} {d : PD} (k : Kept K B G H ps row) (hj : ps[j]? = some p) (hx : row[j]? = some xs) (hp : H p = some (.lst vs)) (hu : Rp K G u d) : Kept K B G (L2.upd H p (.lst (vs ++ [u]))) ps (row.set j (xs ++ [d])) := by
  refine ⟨by rw [List.length_set]; exact k.len, k.nd, fun i q ys hq hy => ?_⟩
  have hjl := (List.getElem?_eq_some_iff.mp hx).1
  have hjp := (List.getElem?_eq_some_iff.mp hj).1
  by_cases e : j = i
  · subst e
    rw [hj] at hq
    have hq : p = q := Option.some.inj hq
    subst hq
    rw [List.getElem?_set_self hjl] at hy
    have hy : xs ++ [d] = ys := Option.some.inj hy
    subst hy
    obtain ⟨vs', h1, h2, h3, h4⟩ := k.it j p xs hj hx
    rw [hp] at h1
    cases h1
    exact ⟨_, upd_same, h2, h3, h4.append (.cons hu .nil)⟩
  · rw [List.getElem?_set_ne e] at hy
    obtain ⟨vs', h1, h2, h3, h4⟩ := k.it i q ys hq hy
    have ne : q ≠ p := fun z => by
      have hi := (List.getElem?_eq_some_iff.mp hq).1
      have e1 := (List.getElem?_eq_some_iff.mp hq).2
      have e2 := (List.getElem?_eq_some_iff.mp hj).2
      have pw := List.pairwise_iff_getElem.mp k.nd
      rcases Nat.lt_or_gt_of_ne e with hlt | hlt
      · exact pw j i hjp hi hlt (by rw [e1, e2, z])
      · exact pw i j hi hjp hlt (by rw [e1, e2, z])
    exact ⟨vs', by rw [upd_ne ne]; exact h1, h2, h3, h4⟩
inductive HRows (K : KT) (B : Addr → Prop) (G H : Hp) : List Addr → List (List Addr) → Tree → Prop
  | nil : HRows K B G H [] [] []
  | cons {q : Addr} {ps : List Addr} {row : List (List PD)} {qs : List Addr} {pss : List (List Addr)} {χ : Tree} : H q = some (.lst (ps.map V.ref)) → G q = none → ¬ B q → Kept K B G H ps row → HRows K B G H qs pss χ → HRows K B G H (q :: qs) (ps :: pss) (row :: χ)
theorem HRows.step {B1 : Addr → Prop} {G' H' : Hp} (S : Stp B1 G H G' H') : ∀ {qs : List Addr} {pss : List (List Addr)} {χ : Tree}, HRows K B G H qs pss χ → (∀ a ∈ qs, B1 a) → (∀ a ∈ pss.flatten, B1 a) → HRows K B G' H' qs pss χ
  | _, _, _, .nil, _, _ => .nil
  | _, _, _, .cons h1 h2 h3 k r, hq, hp => by
    rw [List.flatten_cons] at hp
    have b := hq _ List.mem_cons_self
    exact .cons (S.h _ _ b h1 nt_lst) ((S.n _ _ b h1 trivial).trans h2) h3 (k.step S fun p hm => hp p (List.mem_append_left _ hm)) (HRows.step S r (fun a ha => hq a (List.mem_cons_of_mem _ ha)) fun a ha => hp a (List.mem_append_right _ ha))
theorem HRows.upd {D : Addr} {o : HO} : ∀ {qs : List Addr} {pss : List (List Addr)} {χ : Tree}, HRows K B G H qs pss χ → D ∉ qs → D ∉ pss.flatten → HRows K B G (L2.upd H D o) qs pss χ
  | _, _, _, .nil, _, _ => .nil
  | _, _, _, .cons h1 h2 h3 k r, hq, hp => by
    rw [List.flatten_cons, List.mem_append, not_or] at hp
    rw [List.mem_cons, not_or] at hq
    exact .cons (by rw [upd_ne (fun z => hq.1 z.symm)]; exact h1) h2 h3 (k.upd hp.1) (HRows.upd r hq.2 hp.2)
theorem HRows.snoc {q : Addr} {ps : List Addr} {row : List (List PD)} (h1 : H q = some (.lst (ps.map V.ref))) (h2 : G q = none) (h3 : ¬ B q) (k : Kept K B G H ps row) : ∀ {qs : List Addr} {pss : List (List Addr)} {χ : Tree}, HRows K B G H qs pss χ → HRows K B G H (qs ++ [q]) (pss ++ [ps]) (χ ++ [row])
  | _, _, _, .nil => .cons h1 h2 h3 k .nil
  | _, _, _, .cons a b c d r => .cons a b c d (HRows.snoc h1 h2 h3 k r)
theorem HRows.nb : ∀ {qs : List Addr} {pss : List (List Addr)} {χ : Tree}, HRows K B G H qs pss χ → ∀ a, a ∈ qs ∨ a ∈ pss.flatten → (∃ vs, H a = some (.lst vs)) ∧ ¬ B a
  | _, _, _, .nil, a, h => by rcases h with h | h <;> cases h
  | _, _, _, .cons h1 h2 h3 k r, a, h => by
    rw [List.flatten_cons, List.mem_append, List.mem_cons] at h
    rcases h with (rfl | h) | (h | h)
    · exact ⟨⟨_, h1⟩, h3⟩
    · exact HRows.nb r a (.inl h)
    · obtain ⟨vs, a1, _, a3⟩ := k.mem h
      exact ⟨⟨vs, a1⟩, a3⟩
    · exact HRows.nb r a (.inr h)
theorem HRows.get : ∀ {qs : List Addr} {pss : List (List Addr)} {χ : Tree}, HRows K B G H qs pss χ → ∀ {i : Nat} {row : List (List PD)}, χ[i]? = some row → ∃ q ps, qs[i]? = some q ∧ pss[i]? = some ps ∧ H q = some (.lst (ps.map V.ref)) ∧ Kept K B G H ps row
  | _, _, _, .nil, i, row, h => by simp at h
  | _, _, _, .cons h1 h2 h3 k r, 0, row, h => by
    have h : _ = row := Option.some.inj h
    subst h
    exact ⟨_, _, rfl, rfl, h1, k⟩
  | _, _, _, .cons h1 h2 h3 k r, i + 1, row, h => HRows.get r (i := i) (by simpa using h)
theorem HRows.app {p : Addr} {xs : List PD} {vs : List V} {u : V} {d : PD} (hp : H p = some (.lst vs)) (hu : Rp K G u d) {j : Nat} : ∀ {qs : List Addr} {pss : List (List Addr)} {χ : Tree}, HRows K B G H qs pss χ → (qs ++ pss.flatten).Nodup → ∀ {i : Nat} {ps : List Addr} {row : List (List PD)}, χ[i]? = some row → pss[i]? = some ps → ps[j]? = some p → row[j]? = some xs →
    HRows K B G (L2.upd H p (.lst (vs ++ [u]))) qs pss (χ.set i (row.set j (xs ++ [d])))
  | _, _, _, .nil, _, i, ps, row, h, _, _, _ => by simp at h
  | _, _, _, .cons (q := q) (ps := ps0) (qs := qs) (pss := pss) h1 h2 h3 k r, nd, 0, ps, row, h, hs, hj, hx => by
    have h : _ = row := Option.some.inj h
    have hs : _ = ps := Option.some.inj hs
    subst h hs
    have hm := List.mem_of_getElem? hj
    have nd2 := nd
    rw [List.flatten_cons] at nd2
    have n1 := List.nodup_append.mp nd2
    have n2 := List.nodup_append.mp n1.2.1
    have nq : ∀ a ∈ q :: qs, a ≠ p := fun a ha => n1.2.2 a ha p (List.mem_append_left _ hm)
    have nf : p ∉ pss.flatten := fun z => n2.2.2 p hm p z rfl
    exact .cons (by rw [upd_ne (nq q List.mem_cons_self)]; exact h1) h2 h3 (k.app hj hx hp hu) (r.upd (fun z => nq p (List.mem_cons_of_mem _ z) rfl) nf)
  | _, _, _, .cons (q := q) (ps := ps0) (qs := qs) (pss := pss) (χ := χ) h1 h2 h3 k r, nd, i + 1, ps, row, h, hs, hj, hx => by
    have h : χ[i]? = some row := by simpa using h
    have hs : pss[i]? = some ps := by simpa using hs
    have hm : p ∈ pss.flatten := List.mem_flatten.mpr ⟨ps, List.mem_of_getElem? hs, List.mem_of_getElem? hj⟩
    have nd2 := nd
    rw [List.flatten_cons] at nd2
    have n1 := List.nodup_append.mp nd2
    have n2 := List.nodup_append.mp n1.2.1
    have nq : q ≠ p := n1.2.2 q List.mem_cons_self p (List.mem_append_right _ hm)
    have np : p ∉ ps0 := fun z => n2.2.2 p z p hm rfl
    have nd3 : (qs ++ pss.flatten).Nodup := List.nodup_append.mpr ⟨(List.nodup_cons.mp n1.1).2, n2.2.1, fun a ha b hb => n1.2.2 a (List.mem_cons_of_mem _ ha) b (List.mem_append_right _ hb)⟩
    exact .cons (by rw [upd_ne nq]; exact h1) h2 h3 (k.upd np) (HRows.app hp hu r nd3 h hs hj hx)
/-- all hidden things -/
def adrT (D : Addr) (qs : List Addr) (pss : List (List Addr)) (a : Addr) : Prop := a = D ∨ a ∈ qs ∨ a ∈ pss.flatten
structure Hid (K : KT) (B : Addr → Prop) (G H : Hp) (D : Addr) (qs : List Addr) (pss : List (List Addr)) (χ : Tree) : Prop where
  hD : H D = some (.lst (qs.map V.ref))
  gD : G D = none
  nB : ¬ B D
  nd : (D :: (qs ++ pss.flatten)).Nodup
  rows : HRows K B G H qs pss χ
theorem Hid.step {B1 : Addr → Prop} {G' H' : Hp} {D : Addr} {qs : List Addr} {pss : List (List Addr)} {χ : Tree} (h : Hid K B G H D qs pss χ) (S : Stp B1 G H G' H') (hb : ∀ a, adrT D qs pss a → B1 a) : Hid K B G' H' D qs pss χ :=
  ⟨S.h _ _ (hb D (.inl rfl)) h.hD nt_lst, (S.n _ _ (hb D (.inl rfl)) h.hD trivial).trans h.gD, h.nB, h.nd, h.rows.step S (fun a ha => hb a (.inr (.inl ha))) fun a ha => hb a (.inr (.inr ha))⟩
/-! ### made stable -/
theorem freeze_list {σ : L2.St} {ρ : Sl} : ∀ {ps : List Addr} {xss : List (List PD)} {G : Hp}, Rep K B G H σ ρ → Kept K B G H ps xss → (∀ (i : Nat) (u : OD) (p : Addr), ρ[i]? = some (SD.own u) → σ[i]? = some (some (V.ref p)) → p ∉ ps) →
    ∃ G', Rep K B G' H σ ρ ∧ Stp B G H G' H ∧ RpAll K G' (ps.map V.ref) (xss.map PD.lst) ∧ ∀ a, a ∉ ps → G' a = G a
  | [], [], G, R, k, _ => ⟨G, R, .refl, .nil, fun _ _ => rfl⟩
  | [], _ :: _, _, _, k, _ => by have := k.len; simp at this
  | _ :: _, [], _, _, k, _ => by have := k.len; simp at this
  | p :: ps, xs :: xss, G, R, k, sep => by
    obtain ⟨vs, h1, h2, h3, h4⟩ := k.it 0 p xs rfl rfl
    have nd := List.nodup_cons.mp k.nd
    obtain ⟨R1, rp, S1⟩ := R.stable h1 h2 h3 (.lst h4) rfl (fun i u hi hz => sep i u p hi hz List.mem_cons_self)
    have kt := k.tail
    have kt1 : Kept K B (upd G p (.lst vs)) H ps xss := by
      refine ⟨kt.len, kt.nd, fun i q ys hq hy => ?_⟩
      obtain ⟨ws, a1, a2, a3, a4⟩ := kt.it i q ys hq hy
      exact ⟨ws, a1, by rw [upd_ne (fun z => nd.1 (by rw [← z]; exact List.mem_of_getElem? hq))]; exact a2, a3, a4.mono S1.g⟩
    obtain ⟨G', R2, S2, rs, same⟩ := freeze_list R1 kt1 (fun i u q hi hz hm => sep i u q hi hz (List.mem_cons_of_mem _ hm))
    refine ⟨G', R2, S1.trans S2, .cons (rp.mono S2.g) rs, fun a ha => ?_⟩
    rw [List.mem_cons, not_or] at ha
    rw [same a ha.2, upd_ne ha.1]
theorem freeze_rows {σ : L2.St} {ρ : Sl} : ∀ {qs : List Addr} {pss : List (List Addr)} {χ : Tree} {G : Hp}, Rep K B G H σ ρ → HRows K B G H qs pss χ → (qs ++ pss.flatten).Nodup → (∀ (i : Nat) (u : OD) (p : Addr), ρ[i]? = some (SD.own u) → σ[i]? = some (some (V.ref p)) → p ∉ qs ∧ p ∉ pss.flatten) →
    ∃ G', Rep K B G' H σ ρ ∧ Stp B G H G' H ∧ RpAll K G' (qs.map V.ref) (χ.map fun row => PD.lst (row.map PD.lst)) ∧ ∀ a, a ∉ qs → a ∉ pss.flatten → G' a = G a
  | _, _, _, G, R, .nil, _, _ => ⟨G, R, .refl, .nil, fun _ _ _ => rfl⟩
  | _, _, _, G, R, .cons (q := q) (ps := ps) (row := row) (qs := qs) (pss := pss) (χ := χ) h1 h2 h3 k r, nd, sep => by
    rw [List.flatten_cons] at nd
    have n1 := List.nodup_append.mp nd
    have n2 := List.nodup_append.mp n1.2.1
    have nqp : q ∉ ps := fun z => n1.2.2 q List.mem_cons_self q (List.mem_append_left _ z) rfl
    have nqf : q ∉ pss.flatten := fun z => n1.2.2 q List.mem_cons_self q (List.mem_append_right _ z) rfl
    have nqq := (List.nodup_cons.mp n1.1).1
    have nd3 : (qs ++ pss.flatten).Nodup := List.nodup_append.mpr ⟨(List.nodup_cons.mp n1.1).2, n2.2.1, fun a ha b hb => n1.2.2 a (List.mem_cons_of_mem _ ha) b (List.mem_append_right _ hb)⟩
    obtain ⟨G1, R1, S1, rs1, same1⟩ := freeze_list R k (fun i u p hi hz hm => (sep i u p hi hz).2 (by rw [List.flatten_cons]; exact List.mem_append_left _ hm))
    have gq : G1 q = none := (same1 q nqp).trans h2
    obtain ⟨R2, rq, S2⟩ := R1.stable h1 gq h3 (.lst rs1) rfl (fun i u hi hz => (sep i u q hi hz).1 List.mem_cons_self)
    have r2 : HRows K B (L2.upd G1 q (.lst (ps.map V.ref))) H qs pss χ := by
      have go : ∀ {qs : List Addr} {pss : List (List Addr)} {χ : Tree}, HRows K B G H qs pss χ → (∀ a ∈ qs, a ≠ q ∧ a ∉ ps) → (∀ a ∈ pss.flatten, a ≠ q ∧ a ∉ ps) → HRows K B (L2.upd G1 q (.lst (ps.map V.ref))) H qs pss χ := by
        intro qs pss χ h
        induction h with
        | nil => exact fun _ _ => .nil
        | cons a1 a2 a3 a4 a5 ih =>
          intro hq hp
          rw [List.flatten_cons] at hp
          obtain ⟨x1, x2⟩ := hq _ List.mem_cons_self
          refine .cons a1 (by rw [upd_ne x1, same1 _ x2]; exact a2) a3 ⟨a4.len, a4.nd, fun i p xs hi hx => ?_⟩ (ih (fun a ha => hq a (List.mem_cons_of_mem _ ha)) fun a ha => hp a (List.mem_append_right _ ha))
          obtain ⟨vs, b1, b2, b3, b4⟩ := a4.it i p xs hi hx
          obtain ⟨y1, y2⟩ := hp p (List.mem_append_left _ (List.mem_of_getElem? hi))
          exact ⟨vs, b1, by rw [upd_ne y1, same1 _ y2]; exact b2, b3, (b4.mono S1.g).mono S2.g⟩
      exact go r (fun a ha => ⟨fun z => nqq (z ▸ ha), fun z => n1.2.2 a (List.mem_cons_of_mem _ ha) a (List.mem_append_left _ z) rfl⟩) (fun a ha => ⟨fun z => nqf (z ▸ ha), fun z => n2.2.2 a z a ha rfl⟩)
    obtain ⟨G', R3, S3, rs3, same3⟩ := freeze_rows R2 r2 nd3 (fun i u p hi hz => by
      obtain ⟨a, b⟩ := sep i u p hi hz
      rw [List.flatten_cons, List.mem_append, not_or] at b
      rw [List.mem_cons, not_or] at a
      exact ⟨a.2, b.2⟩)
    refine ⟨G', R3, (S1.trans S2).trans S3, .cons (rq.mono S3.g) rs3, fun a ha hb => ?_⟩
    rw [List.mem_cons, not_or] at ha
    rw [List.flatten_cons, List.mem_append, not_or] at hb
    rw [same3 a ha.2 hb.2, upd_ne ha.1, same1 a hb.1]
theorem Hid.freeze {σ : L2.St} {ρ : Sl} {D : Addr} {qs : List Addr} {pss : List (List Addr)} {χ : Tree} {x : Nat} (R : Rep K (fun a => B a ∨ adrT D qs pss a) G H σ ρ) (b0 : ∀ a, K.B0 a → B a) (h : Hid K B G H D qs pss χ) (hx : σ[x]? = some (some (V.ref D))) :
    ∃ G', Rep K B G' H σ (ρ.set x (.dat (treeP χ))) ∧ Stp B G H G' H := by
  have sep : ∀ (i : Nat) (u : OD) (p : Addr), ρ[i]? = some (SD.own u) → σ[i]? = some (some (V.ref p)) → ¬ adrT D qs pss p := fun i u p hi hz ha => by
    obtain ⟨q, hq, h1, _, _, h4, _⟩ := R.own i u hi
    rw [hz] at h1; cases h1
    exact h4 (.inr ha)
  have nd := List.nodup_cons.mp h.nd
  have nDq : D ∉ qs := fun z => nd.1 (List.mem_append_left _ z)
  have nDp : D ∉ pss.flatten := fun z => nd.1 (List.mem_append_right _ z)
  have R0 := R.weak b0 (fun a z => .inl z)
  obtain ⟨G1, R1, S1, rs, same⟩ := freeze_rows R0 h.rows nd.2 (fun i u p hi hz => ⟨fun z => sep i u p hi hz (.inr (.inl z)), fun z => sep i u p hi hz (.inr (.inr z))⟩)
  have gD : G1 D = none := (same D nDq nDp).trans h.gD
  obtain ⟨R2, rD, S2⟩ := R1.stable h.hD gD h.nB (.lst rs) rfl (fun i u hi hz => sep i u D hi hz (.inl rfl))
  have R3 := R2.store (i := x) (v := V.ref D) (s := .dat (treeP χ)) (fun d z => by cases z; exact rD) (fun o z => by cases z)
  have e : σ.set x (some (V.ref D)) = σ := by
    apply List.ext_getElem?
    intro m
    by_cases hm : m = x
    · subst hm
      rw [List.getElem?_set_self (List.getElem?_eq_some_iff.mp hx).1, hx]
    · rw [List.getElem?_set_ne (Ne.symm hm)]
  rw [e] at R3
  exact ⟨_, R3, S1.trans S2⟩
end
end DL

set_option Elab.async false
set_option linter.all false
set_option maxRecDepth 100000
set_option maxHeartbeats 2000000
namespace DL
open PySem L2
/-! ### statements beside a tree that is built -/
abbrev WsB := (Tree → Sl → Prop) → Tree → Sl → Prop
def WSsB (K : KT) (T : Nat → Bool) (x : Nat) (ts : TS) (w : WsB) : Prop := ∀ (B : Addr → Prop) (G H : Hp) (σ S0 : L2.St) (ρ : Sl) (N : Tree → Sl → Prop) (Dn : Ends) (D : Addr) (qs : List Addr) (pss : List (List Addr)) (χ : Tree), (∀ a, K.B0 a → B a) →
  Rep K (fun a => B a ∨ adrT D qs pss a) G H σ ρ → Hid K B G H D qs pss χ → Pn T S0 σ → σ[x]? = some (some (V.ref D)) → w N χ ρ →
  (∀ G' H' σ' ρ' χ', Stp B G H G' H' → Rep K (fun a => B a ∨ adrT D qs pss a) G' H' σ' ρ' → Hid K B G' H' D qs pss χ' → Pn T S0 σ' → σ'[x]? = some (some (V.ref D)) → N χ' ρ' → Dn.nx σ' H') → ts Dn σ H
section
variable {K : KT} {T : Nat → Bool} {x : Nat} {t u : TS}
def wLift (w : Ws) : WsB := fun N χ ρ => w { nx := N χ, rt := fun _ _ => False, bk := fun _ => False, ct := fun _ => False } ρ
def wSeqB (a b : WsB) : WsB := fun N => a (b N)
def wIfB (wc : Wt) (w : WsB) : WsB := fun N χ ρ => wc ρ fun b ρ1 => match b with
  | true => w N χ ρ1
  | false => N χ ρ1
def forLB (wg : Wg) (wb : WsB) : List PD → (Tree → Sl → Prop) → Tree → Sl → Prop
  | [], N, χ, ρ => N χ ρ
  | d :: ds, N, χ, ρ => wg d ρ fun ρ' => wb (forLB wg wb ds N) χ ρ'
def wForB (wi : Wi) (wg : Wg) (wb : WsB) : WsB := fun N χ ρ => wi ρ fun ds ρ1 => forLB wg wb ds N χ ρ1
/-- X[i][j].append(v) -/
def wAppB (wi wj : We) (wv : Wa) : WsB := fun N χ ρ => wi ρ fun ri ρ1 => ∃ (i : Nat) (row : List (List PD)), ri = .dat (.int (i : Nat)) ∧ χ[i]? = some row ∧ wj ρ1 fun rj ρ2 => ∃ (j : Nat) (xs : List PD), rj = .dat (.int (j : Nat)) ∧ row[j]? = some xs ∧ wv ρ2 fun rs ρ3 => frz rs ρ3 fun ds ρ4 => match ds with
  | [d] => xs.length < sizeLine ∧ N (χ.set i (row.set j (xs ++ [d]))) ρ4
  | _ => False
theorem atI_nat {α : Type} {xs : List α} {i : Nat} {v : α} (h : xs[i]? = some v) : atI xs ((i : Nat) : Int) = some v := by
  have hl := (List.getElem?_eq_some_iff.mp h).1
  unfold atI ixN
  rw [if_pos (by omega), if_pos (by omega)]
  simpa using h
end
end DL

set_option Elab.async false
set_option linter.all false
set_option maxRecDepth 100000
set_option maxHeartbeats 2000000
namespace DL
open PySem L2
/-! ### the tree is made, built, and then plain data -/
section
variable {K : KT}
def crL (v1 v2 : Nat) (wi2 : Wi) (we : We) : List PD → Tree → (Tree → Sl → Prop) → Sl → Prop
  | [], χ, Q, ρ => Q χ ρ
  | d :: ds, χ, Q, ρ => wi2 (ρ.set v1 (.dat d)) fun ds2 ρ1 => noOwn ρ1 [v2] = true ∧ potL1 v2 we ds2 [] (fun xss ρ2 => χ.length < sizeLine ∧ crL v1 v2 wi2 we ds (χ ++ [xss]) Q (wipeS (restore ρ1 [v2] ρ2) [v1])) (wipeS ρ1 [v2])
def wTree (wi : Wi) (v1 : Nat) (wi2 : Wi) (v2 : Nat) (we : We) (x : Nat) (wl : WsB) (w3 : Ws) : Ws := fun O ρ => x < ρ.length ∧ wi ρ fun ds ρ1 => noOwn ρ1 [v1] = true ∧ crL v1 v2 wi2 we ds [] (fun χ ρ2 => wl (fun χ' ρ' => w3 O (ρ'.set x (.dat (treeP χ')))) χ ((restore ρ1 [v1] ρ2).set x .emp)) (wipeS ρ1 [v1])
end
end DL

set_option Elab.async false
set_option linter.all false
set_option maxRecDepth 100000
set_option maxHeartbeats 2000000
namespace DL
open PySem L2
/-! ### statements beside a tree, written -/
structure DB1 (X : CxT) (T : Nat → Bool) (x : Nat) (st : Stmt) (ts : TS) (w : WsB) : Prop where
  ps : PS X st ts
  wsb : WSsB X.K T x ts w
structure DBs (X : CxT) (T : Nat → Bool) (x : Nat) (sts : List Stmt) (ts : TS) (w : WsB) : Prop where
  pss : PSs X sts ts
  wsb : WSsB X.K T x ts w
section
variable {X : CxT} {T : Nat → Bool} {x : Nat} {st : Stmt} {rest : List Stmt} {t u : TS} {w v : WsB} {pos : Pos}
end
end DL

set_option Elab.async false
set_option linter.all false
set_option maxRecDepth 100000
set_option maxHeartbeats 2000000
namespace DL
open PySem L2
/-! ### lists in a list that are built: X = [[] for ..], then X[i].append(x), then only read -/
section
variable {K : KT} {B : Addr → Prop} {G H : Hp}
def adrK (D : Addr) (ps : List Addr) (a : Addr) : Prop := a = D ∨ a ∈ ps
structure HidK (K : KT) (B : Addr → Prop) (G H : Hp) (D : Addr) (ps : List Addr) (χ : List (List PD)) : Prop where
  hD : H D = some (.lst (ps.map V.ref))
  gD : G D = none
  nB : ¬ B D
  nD : D ∉ ps
  kp : Kept K B G H ps χ
theorem HidK.step {B1 : Addr → Prop} {G' H' : Hp} {D : Addr} {ps : List Addr} {χ : List (List PD)} (h : HidK K B G H D ps χ) (S : Stp B1 G H G' H') (hb : ∀ a, adrK D ps a → B1 a) : HidK K B G' H' D ps χ :=
  ⟨S.h _ _ (hb D (.inl rfl)) h.hD nt_lst, (S.n _ _ (hb D (.inl rfl)) h.hD trivial).trans h.gD, h.nB, h.nD, h.kp.step S fun a ha => hb a (.inr ha)⟩
theorem HidK.freeze {σ : L2.St} {ρ : Sl} {D : Addr} {ps : List Addr} {χ : List (List PD)} {x : Nat} (R : Rep K (fun a => B a ∨ adrK D ps a) G H σ ρ) (b0 : ∀ a, K.B0 a → B a) (h : HidK K B G H D ps χ) (hx : σ[x]? = some (some (V.ref D))) :
    ∃ G', Rep K B G' H σ (ρ.set x (.dat (.lst (χ.map PD.lst)))) ∧ Stp B G H G' H := by
  have sep : ∀ (i : Nat) (u : OD) (p : Addr), ρ[i]? = some (SD.own u) → σ[i]? = some (some (V.ref p)) → ¬ adrK D ps p := fun i u p hi hz ha => by
    obtain ⟨q, hq, h1, _, _, h4, _⟩ := R.own i u hi
    rw [hz] at h1; cases h1
    exact h4 (.inr ha)
  obtain ⟨G1, R1, S1, rs, same⟩ := freeze_list (R.weak b0 (fun a z => .inl z)) h.kp (fun i u p hi hz z => sep i u p hi hz (.inr z))
  have gD : G1 D = none := (same D h.nD).trans h.gD
  obtain ⟨R2, rD, S2⟩ := R1.stable h.hD gD h.nB (.lst rs) rfl (fun i u hi hz => sep i u D hi hz (.inl rfl))
  have R3 := R2.store (i := x) (v := V.ref D) (s := .dat (.lst (χ.map PD.lst))) (fun d z => by cases z; exact rD) (fun o z => by cases z)
  have e : σ.set x (some (V.ref D)) = σ := by
    apply List.ext_getElem?
    intro m
    by_cases hm : m = x
    · subst hm
      rw [List.getElem?_set_self (List.getElem?_eq_some_iff.mp hx).1, hx]
    · rw [List.getElem?_set_ne (Ne.symm hm)]
  rw [e] at R3
  exact ⟨_, R3, S1.trans S2⟩
end
abbrev WsK := (List (List PD) → Sl → Prop) → List (List PD) → Sl → Prop
def WSsK (K : KT) (T : Nat → Bool) (x : Nat) (ts : TS) (w : WsK) : Prop := ∀ (B : Addr → Prop) (G H : Hp) (σ S0 : L2.St) (ρ : Sl) (N : List (List PD) → Sl → Prop) (Dn : Ends) (D : Addr) (ps : List Addr) (χ : List (List PD)), (∀ a, K.B0 a → B a) →
  Rep K (fun a => B a ∨ adrK D ps a) G H σ ρ → HidK K B G H D ps χ → Pn T S0 σ → σ[x]? = some (some (V.ref D)) → w N χ ρ →
  (∀ G' H' σ' ρ' χ', Stp B G H G' H' → Rep K (fun a => B a ∨ adrK D ps a) G' H' σ' ρ' → HidK K B G' H' D ps χ' → Pn T S0 σ' → σ'[x]? = some (some (V.ref D)) → N χ' ρ' → Dn.nx σ' H') → ts Dn σ H
section
variable {K : KT} {T : Nat → Bool} {x : Nat} {t u : TS}
def wLiftK (w : Ws) : WsK := fun N χ ρ => w { nx := N χ, rt := fun _ _ => False, bk := fun _ => False, ct := fun _ => False } ρ
def wSeqK (a b : WsK) : WsK := fun N => a (b N)
def wIfK (wc : Wt) (w : WsK) : WsK := fun N χ ρ => wc ρ fun b ρ1 => match b with
  | true => w N χ ρ1
  | false => N χ ρ1
def forLK (wg : Wg) (wb : WsK) : List PD → (List (List PD) → Sl → Prop) → List (List PD) → Sl → Prop
  | [], N, χ, ρ => N χ ρ
  | d :: ds, N, χ, ρ => wg d ρ fun ρ' => wb (forLK wg wb ds N) χ ρ'
def wForK (wi : Wi) (wg : Wg) (wb : WsK) : WsK := fun N χ ρ => wi ρ fun ds ρ1 => forLK wg wb ds N χ ρ1
/-- X[i].append(v) -/
def wAppK (wi : We) (wv : Wa) : WsK := fun N χ ρ => wi ρ fun ri ρ1 => ∃ (i : Nat) (xs : List PD), ri = .dat (.int (i : Nat)) ∧ χ[i]? = some xs ∧ wv ρ1 fun rs ρ3 => frz rs ρ3 fun ds ρ4 => match ds with
  | [d] => xs.length < sizeLine ∧ N (χ.set i (xs ++ [d])) ρ4
  | _ => False
def wLists (wi : Wi) (v : Nat) (we : We) (x : Nat) (wl : WsK) (w3 : Ws) : Ws := fun O ρ => x < ρ.length ∧ wi ρ fun ds ρ1 => noOwn ρ1 [v] = true ∧ potL1 v we ds [] (fun χ ρ2 => wl (fun χ' ρ' => w3 O (ρ'.set x (.dat (.lst (χ'.map PD.lst))))) χ ((restore ρ1 [v] ρ2).set x .emp)) (wipeS ρ1 [v])
end
structure DK1 (X : CxT) (T : Nat → Bool) (x : Nat) (st : Stmt) (ts : TS) (w : WsK) : Prop where
  ps : PS X st ts
  wsk : WSsK X.K T x ts w
structure DKs (X : CxT) (T : Nat → Bool) (x : Nat) (sts : List Stmt) (ts : TS) (w : WsK) : Prop where
  pss : PSs X sts ts
  wsk : WSsK X.K T x ts w
section
variable {X : CxT} {T : Nat → Bool} {x : Nat} {st : Stmt} {rest : List Stmt} {t u : TS} {w v : WsK} {pos : Pos}
end
end DL

set_option linter.all false
set_option maxRecDepth 100000
set_option maxHeartbeats 1000000
set_option Elab.async false
namespace DL
open PySem L2
section
variable {X : CxT} {T : Nat → Bool} {n x : Str} {i N : Nat} {cl : Nat → Addr} {body suite : List Stmt} {s0 : Stmt} {CS : Addr} {np pos pos' : Pos} {asg : List Nat} {tb : WX → TS} {wb : Xp → Ws} {ws : Ws}
end
end DL

set_option linter.all false
set_option maxRecDepth 100000
set_option maxHeartbeats 1000000
set_option Elab.async false
/-! ### e[::-1], a list or a tuple -/
namespace DL
open PySem PySem.Spec PyProof.Rows L2
section
variable {prog : Program} {w : World} {A : Around} {E : Value → Shared → Prop} {s : Shared}
end
section
variable {X : Cx}
def tRevA (K : PySem.W.Frag) (te : TE) : TE := fun σ H Q => te σ H fun x H1 => (∃ a xs, x = .ref a ∧ SqL K H1 a xs ∧ ∀ p, H1 p = none → Q (.ref p) (upd H1 p (.lst xs.reverse))) ∨
  (∃ a xs, x = .ref a ∧ SqT K H1 a xs ∧ ∀ p, H1 p = none → Q (.ref p) (upd H1 p (.tup xs.reverse)))
end
section
variable {X : CxT} {K : KT} {e : Expr} {te : TE} {we : We} {pos p1 p2 p3 : Pos} {k0 : Nat}
def wRevA (we : We) : We := fun ρ Q => we ρ fun r ρ1 => look r ρ1 fun d => match d with
  | .lst xs => Q (.own (.lst xs.reverse)) ρ1
  | .tup xs => Q (.dat (.tup xs.reverse)) ρ1
  | _ => False
end
end DL

set_option linter.all false
set_option maxRecDepth 100000
set_option maxHeartbeats 1000000
set_option Elab.async false
/-! ### list(d): its keys -/
namespace DL
open PySem L2
section
variable {X : CxT} {K : PySem.W.Frag}
def keyP : Key → PD
  | .inl i => .int i
  | .inr s => .str s
def dListD : Dn := fun ds k => match ds with
  | [.dct kvs] => k (.own (.lst (kvs.map fun kv => keyP kv.1)))
  | _ => False
end
end DL

set_option Elab.async false
set_option linter.all false
set_option maxRecDepth 100000
set_option maxHeartbeats 2000000
namespace DL
open PySem PyProof.Rows L2
/-! ### for (a, b), x in d.items(), d a slot's own dict by tuples: it is locked, and told no more -/
/-- the pairs of the locked dict by tuples, each a new tuple -/
def ItiT (d : Addr) (o : Obj) (kvs : List (List Key × V)) : It :=
  ⟨fun i H => H d = some (.frz o (.dT kvs)) ∧ i < kvs.length, fun i H x H' => ∃ (T : Addr) (k : List Key) (v : V) (q : Addr), kvs[i]? = some (k, v) ∧ H q = some (.tup (k.map kV)) ∧ x = .ref T ∧ H T = none ∧ H' = upd H T (.tup [.ref q, v]), fun i H => H d = some (.frz o (.dT kvs)) ∧ kvs.length ≤ i⟩
section
variable {P : Program} {w : World} {K : PySem.W.Frag} {d : Addr} {o : Obj} {es : Array DictEntry} {ep : Nat}
end
def iItemsT (td : TE) : TI := fun σ H R => td σ H fun x H1 => ∃ (d : Addr) (kvs : List (List Key × V)), x = .ref d ∧ H1 d = some (.dT kvs) ∧ ∀ o, R (ItiT d o kvs) (upd H1 d (.frz o (.dT kvs)))
/-- the pairs of a dict by tuples -/
def itemsP (kvs : List (List Key × PD)) : List PD := kvs.map fun kv => .tup [.tup (kv.1.map keyP), kv.2]
def wItemsT (j : Nat) : Wi := fun ρ Q => ownT j ρ fun kvs => Q (itemsP kvs) (ρ.set j .emp)
end DL

set_option Elab.async false
set_option linter.all false
set_option maxRecDepth 100000
set_option maxHeartbeats 2000000
namespace DL
open PySem L2
/-! ### lists in a dict by tuples that are built: X = {}, then X.setdefault((a, b), []).append(x), then only read -/
abbrev Led := List (List Key × List PD)
def addLd : Led → List Key → PD → Led
  | [], k, d => [(k, [d])]
  | (k', xs) :: r, k, d => if k' = k then (k', xs ++ [d]) :: r else (k', xs) :: addLd r k d
def getLd (χ : Led) (k : List Key) : List PD := ((χ.find? fun kv => decide (kv.1 = k)).map (·.2)).getD []
def ledP (χ : Led) : List (List Key × PD) := χ.map fun kv => (kv.1, PD.lst kv.2)
/-- d.setdefault(k, x), k a tuple -/
def tSd (td ty tx : TE) : TE := fun σ H Q => td σ H fun x H1 => ∃ a, x = .ref a ∧ IsD H1 a ∧ ty σ H1 fun y H2 => tx σ H2 fun z H3 => ∃ kvs k b, y = .ref b ∧ H3 a = some (.dT kvs) ∧ H3 b = some (.tup (k.map kV)) ∧ kvs.length < sizeLine ∧
  (∀ v, valV kvs k = some v → Q v H3) ∧ (valV kvs k = none → Q z (upd H3 a (.dT (putK kvs k z))))
section
variable {K : KT} {B : Addr → Prop} {G H : Hp}
/-- the dict of the addresses -/
def ledV (χ : Led) (ps : List Addr) : List (List Key × V) := (χ.map (·.1)).zip (ps.map V.ref)
structure HidT (K : KT) (B : Addr → Prop) (G H : Hp) (D : Addr) (ps : List Addr) (χ : Led) : Prop where
  hD : H D = some (.dT (ledV χ ps))
  gD : G D = none
  nB : ¬ B D
  nD : D ∉ ps
  kp : Kept K B G H ps (χ.map (·.2))
theorem HidT.step {B1 : Addr → Prop} {G' H' : Hp} {D : Addr} {ps : List Addr} {χ : Led} (h : HidT K B G H D ps χ) (S : Stp B1 G H G' H') (hb : ∀ a, adrK D ps a → B1 a) : HidT K B G' H' D ps χ :=
  ⟨S.h _ _ (hb D (.inl rfl)) h.hD nt_dT, (S.n _ _ (hb D (.inl rfl)) h.hD trivial).trans h.gD, h.nB, h.nD, h.kp.step S fun a ha => hb a (.inr ha)⟩
theorem HidT.freeze {σ : L2.St} {ρ : Sl} {D : Addr} {ps : List Addr} {χ : Led} {x : Nat} (R : Rep K (fun a => B a ∨ adrK D ps a) G H σ ρ) (b0 : ∀ a, K.B0 a → B a) (h : HidT K B G H D ps χ) (hx : σ[x]? = some (some (V.ref D))) :
    ∃ G', Rep K B G' H σ (ρ.set x (.own (.dT (ledP χ)))) ∧ Stp B G H G' H := by
  have sep : ∀ (i : Nat) (u : OD) (p : Addr), ρ[i]? = some (SD.own u) → σ[i]? = some (some (V.ref p)) → ¬ adrK D ps p := fun i u p hi hz ha => by
    obtain ⟨q, hq, h1, _, _, h4, _⟩ := R.own i u hi
    rw [hz] at h1; cases h1
    exact h4 (.inr ha)
  obtain ⟨G1, R1, S1, rs, same⟩ := freeze_list (R.weak b0 (fun a z => .inl z)) h.kp (fun i u p hi hz z => sep i u p hi hz (.inr z))
  have gD : G1 D = none := (same D h.nD).trans h.gD
  have hl : ps.length = χ.length := by have := h.kp.len; rwa [List.length_map] at this
  have ek : ((ledV χ ps).map (·.1)) = (ledP χ).map (·.1) := by
    unfold ledP ledV
    rw [List.map_map, List.map_fst_zip (by rw [List.length_map, List.length_map]; omega)]
    rfl
  have ev : RpAll K G1 ((ledV χ ps).map (·.2)) ((ledP χ).map (·.2)) := by
    unfold ledP ledV
    rw [List.map_map, List.map_snd_zip (by rw [List.length_map, List.length_map]; omega)]
    rw [List.map_map] at rs
    exact rs
  have R3 := R1.store (i := x) (v := V.ref D) (s := .own (.dT (ledP χ))) (fun d z => by cases z) (fun o z => by
    cases z
    exact ⟨D, _, rfl, h.hD, gD, h.nB, .dT ek ev, fun j u _ hj hz => sep j u D hj hz (.inl rfl)⟩)
  have e : σ.set x (some (V.ref D)) = σ := by
    apply List.ext_getElem?
    intro m
    by_cases hm : m = x
    · subst hm
      rw [List.getElem?_set_self (List.getElem?_eq_some_iff.mp hx).1, hx]
    · rw [List.getElem?_set_ne (Ne.symm hm)]
  rw [e] at R3
  exact ⟨_, R3, S1⟩
end
abbrev WsT := (Led → Sl → Prop) → Led → Sl → Prop
def WSsT (K : KT) (T : Nat → Bool) (x : Nat) (ts : TS) (w : WsT) : Prop := ∀ (B : Addr → Prop) (G H : Hp) (σ S0 : L2.St) (ρ : Sl) (N : Led → Sl → Prop) (Dn : Ends) (D : Addr) (ps : List Addr) (χ : Led), (∀ a, K.B0 a → B a) →
  Rep K (fun a => B a ∨ adrK D ps a) G H σ ρ → HidT K B G H D ps χ → Pn T S0 σ → σ[x]? = some (some (V.ref D)) → w N χ ρ →
  (∀ G' H' σ' ρ' ps' χ', Stp B G H G' H' → Rep K (fun a => B a ∨ adrK D ps' a) G' H' σ' ρ' → HidT K B G' H' D ps' χ' → Pn T S0 σ' → σ'[x]? = some (some (V.ref D)) → N χ' ρ' → Dn.nx σ' H') → ts Dn σ H
section
variable {K : KT} {T : Nat → Bool} {x : Nat} {t u : TS}
def wLiftT (w : Ws) : WsT := fun N χ ρ => w { nx := N χ, rt := fun _ _ => False, bk := fun _ => False, ct := fun _ => False } ρ
def wSeqT (a b : WsT) : WsT := fun N => a (b N)
def wIfT (wc : Wt) (w : WsT) : WsT := fun N χ ρ => wc ρ fun b ρ1 => match b with
  | true => w N χ ρ1
  | false => N χ ρ1
def forLT (wg : Wg) (wb : WsT) : List PD → (Led → Sl → Prop) → Led → Sl → Prop
  | [], N, χ, ρ => N χ ρ
  | d :: ds, N, χ, ρ => wg d ρ fun ρ' => wb (forLT wg wb ds N) χ ρ'
def wForT (wi : Wi) (wg : Wg) (wb : WsT) : WsT := fun N χ ρ => wi ρ fun ds ρ1 => forLT wg wb ds N χ ρ1
/-- X.setdefault((a, b), []).append(v) -/
def wSdT (wk wv : Wa) : WsT := fun N χ ρ => wKey wk ρ fun k ρ1 => χ.length < sizeLine ∧ wv ρ1 fun rs ρ3 => frz rs ρ3 fun ds ρ4 => match ds with
  | [d] => (getLd χ k).length < sizeLine ∧ N (addLd χ k d) ρ4
  | _ => False
/-- X = {}, what builds it, what reads it -/
def wLed (x : Nat) (wl : WsT) (w3 : Ws) : Ws := fun O ρ => x < ρ.length ∧ wl (fun χ' ρ' => w3 O (ρ'.set x (.own (.dT (ledP χ'))))) [] (ρ.set x .emp)
end
structure DT1 (X : CxT) (T : Nat → Bool) (x : Nat) (st : Stmt) (ts : TS) (w : WsT) : Prop where
  ps : PS X st ts
  wst : WSsT X.K T x ts w
structure DTs (X : CxT) (T : Nat → Bool) (x : Nat) (sts : List Stmt) (ts : TS) (w : WsT) : Prop where
  pss : PSs X sts ts
  wst : WSsT X.K T x ts w
section
variable {X : CxT} {T : Nat → Bool} {x : Nat} {st : Stmt} {rest : List Stmt} {t u : TS} {w v : WsT} {pos : Pos}
end
end DL

set_option Elab.async false
set_option linter.all false
set_option maxRecDepth 100000
set_option maxHeartbeats 2000000
namespace DL
open PySem L2
/-! ### not e, e anything that has a truth -/
def wNotT (w : We) : We := fun ρ Q => wTr w ρ fun b ρ1 => Q (.dat (.bl (!b))) ρ1
end DL

set_option Elab.async false
set_option linter.all false
set_option maxRecDepth 100000
set_option maxHeartbeats 2000000
namespace DL
section
open PySem PySem.W PySem.Calls PyProof.Rows
variable {prog : Program} {w : World} {A : Around} {E : Value → Shared → Prop} {s : Shared} {β : Type} {R : Value → β → Prop} {enc : β → PyData} {bs : List β} {vs : List Value}
end
open PySem L2
def rSortDT (K : PySem.W.Frag) : List V → Hp → VK → Prop := fun vs H Q => ∃ (a : Addr) (bs : List (V × PD)), vs = [V.ref a] ∧ SqT K H a (bs.map (·.1)) ∧ (∀ b ∈ bs, Dp K H b.1 b.2.py) ∧ SortOk (bs.map fun b => b.2.py) ∧
  ∀ p : Addr, H p = none → Q (.ref p) (upd H p (.lst ((bs.mergeSort (PySem.W.dataLe false fun b => b.2.py)).map (·.1))))
section
variable {X : CxT}
def dSortedT : Dn := fun ds k => match ds with
  | [.tup xs] => (∀ x ∈ xs, x.plain = true) ∧ SortOk (xs.map PD.py) ∧ k (.own (.lst (xs.mergeSort leD)))
  | _ => False
end
end DL

set_option Elab.async false
set_option linter.all false
set_option maxRecDepth 100000
set_option maxHeartbeats 2000000
namespace DL
open PySem PyProof.Rows L2
/-! ### d[a, b], d a slot's own dict by tuples -/
def wDIxT (j : Nat) (wa : Wa) : We := fun ρ Q => ownT j ρ fun _ => wKey wa ρ fun k ρ1 => ownT j ρ1 fun kvs => ok (getT kvs k) fun d => Q (.dat d) ρ1
end DL

set_option Elab.async false
set_option linter.all false
set_option maxRecDepth 100000
set_option maxHeartbeats 2000000
namespace DL
open PySem PySem.W PySem.Calls PyProof.Rows L2
/-! ### min of a tuple of ints -/
def rMinT (K : PySem.W.Frag) : List V → Hp → VK → Prop := fun vs H Q => ∃ (a : Addr) (ns : List Int), vs = [V.ref a] ∧ SqT K H a (ns.map V.int) ∧ 0 < ns.length ∧ ∀ m, m ∈ ns → (∀ y, y ∈ ns → m ≤ y) → Q (.int m) H
section
variable {X : CxT}
def dMinT : Dn := fun ds k => match ds with
  | [.tup xs] => ok (intsOf xs) fun ns => 0 < ns.length ∧ ∀ m, m ∈ ns → (∀ y, y ∈ ns → m ≤ y) → k (.dat (.int m))
  | _ => False
end
end DL

set_option Elab.async false
set_option linter.all false
set_option maxRecDepth 100000
set_option maxHeartbeats 2000000
namespace DL
open PySem PySem.W PySem.Calls PyProof.Rows L2
/-! ### max, min of three ints -/
section
variable {X : CxT}
def rMax3 : List V → Hp → VK → Prop := fun xs H Q => ∃ a b c, xs = [V.int a, .int b, .int c] ∧ Q (.int (if b > a then (if c > b then c else b) else (if c > a then c else a))) H
def rMin3 : List V → Hp → VK → Prop := fun xs H Q => ∃ a b c, xs = [V.int a, .int b, .int c] ∧ Q (.int (if b < a then (if c < b then c else b) else (if c < a then c else a))) H
theorem call_max3 (hc : X.calm = true) : CallR X (.builtin "max") rMax3 := by
  intro pins s σ H xs us Q I r h
  obtain ⟨a, b, c, rfl, q⟩ := h
  cases r with
  | cons r1 r2 =>
  obtain ⟨u, w', rfl, ⟨t', rfl⟩, ⟨t2, rfl⟩⟩ := vals2 r2
  obtain ⟨t, rfl⟩ := r1
  refine max_three_ints (I.ok.hd hc) fun h' tk k => ⟨_, H, I.kept k, ?_, q⟩
  by_cases h1 : b > a
  · rw [if_pos h1, if_pos h1]
    by_cases h2 : c > b
    · rw [if_pos h2, if_pos h2]; exact ⟨_, rfl⟩
    · rw [if_neg h2, if_neg h2]; exact ⟨_, rfl⟩
  · rw [if_neg h1, if_neg h1]
    by_cases h2 : c > a
    · rw [if_pos h2, if_pos h2]; exact ⟨_, rfl⟩
    · rw [if_neg h2, if_neg h2]; exact ⟨_, rfl⟩
theorem call_min3 (hc : X.calm = true) : CallR X (.builtin "min") rMin3 := by
  intro pins s σ H xs us Q I r h
  obtain ⟨a, b, c, rfl, q⟩ := h
  cases r with
  | cons r1 r2 =>
  obtain ⟨u, w', rfl, ⟨t', rfl⟩, ⟨t2, rfl⟩⟩ := vals2 r2
  obtain ⟨t, rfl⟩ := r1
  refine min_three_ints (I.ok.hd hc) fun h' tk k => ⟨_, H, I.kept k, ?_, q⟩
  by_cases h1 : b < a
  · rw [if_pos h1, if_pos h1]
    by_cases h2 : c < b
    · rw [if_pos h2, if_pos h2]; exact ⟨_, rfl⟩
    · rw [if_neg h2, if_neg h2]; exact ⟨_, rfl⟩
  · rw [if_neg h1, if_neg h1]
    by_cases h2 : c < a
    · rw [if_pos h2, if_pos h2]; exact ⟨_, rfl⟩
    · rw [if_neg h2, if_neg h2]; exact ⟨_, rfl⟩
def dMax3 : Dn := fun ds k => match ds with
  | [.int a, .int b, .int c] => k (.dat (.int (if b > a then (if c > b then c else b) else (if c > a then c else a))))
  | _ => False
def dMin3 : Dn := fun ds k => match ds with
  | [.int a, .int b, .int c] => k (.dat (.int (if b < a then (if c < b then c else b) else (if c < a then c else a))))
  | _ => False
theorem db_max3 (hc : X.calm = true) : DB X (.builtin "max") rMax3 dMax3 := by
  refine ⟨call_max3 hc, fun B G H σ ρ xs ds Q QV R hv q k => ?_⟩
  match ds, hv, q with
  | [.int a, .int b, .int c], .cons h (.cons h' (.cons h2 .nil)), q => exact ⟨a, b, c, by rw [h.int, h'.int, h2.int], k.dat R (.int _) q⟩
theorem db_min3 (hc : X.calm = true) : DB X (.builtin "min") rMin3 dMin3 := by
  refine ⟨call_min3 hc, fun B G H σ ρ xs ds Q QV R hv q k => ?_⟩
  match ds, hv, q with
  | [.int a, .int b, .int c], .cons h (.cons h' (.cons h2 .nil)), q => exact ⟨a, b, c, by rw [h.int, h'.int, h2.int], k.dat R (.int _) q⟩
end
end DL

set_option Elab.async false
set_option linter.all false
set_option maxRecDepth 100000
set_option maxHeartbeats 2000000
namespace DL
open PySem L2
/-! ### a list of one's own, or a datum, in a slot: two readings of one expression -/
section
variable {X : CxT} {K : KT} {e : Expr} {te : TE}
def wBoth (j : Nat) (wA wB : We) : We := fun ρ Q => match ρ[j]? with
  | some (.own _) => wA ρ Q
  | _ => wB ρ Q
theorem we_both {j : Nat} {wA wB : We} (hA : WE K te wA) (hB : WE K te wB) : WE K te (wBoth j wA wB) := fun B G H σ ρ Q QV R q k => by
  unfold wBoth at q
  split at q
  · exact hA B G H σ ρ Q QV R q k
  · exact hB B G H σ ρ Q QV R q k
theorem de_both (j : Nat) {wA wB : We} (hA : DE X e te wA) (hB : DE X e te wB) : DE X e te (wBoth j wA wB) := ⟨hA.pe, we_both hA.we hB.we⟩
end
end DL

set_option Elab.async false
set_option linter.all false
set_option maxRecDepth 100000
set_option maxHeartbeats 2000000
namespace DL
open PySem PySem.Spec PyProof.Rows L2
/-! ### x in f(..): a tuple that stands, a new dict by tuples -/
section
variable {X : Cx} {pins : List (Addr × Obj)} {σ : L2.St} {H : Hp} {s : Shared} {a : Addr}
theorem key_sq {b : Addr} {ks : List Key} (I : Inv X pins σ H s) (e : SqT X.K H b (ks.map kV)) : (tupleKind (mixKind X.prog X.w)).is s.heap ks b := by
  obtain ⟨its, r, ⟨o, h1, h2, n, h3⟩, _⟩ := I.tuple e
  exact ⟨o, its.toArray, n, h1, h2, h3, by simpa using items_are r⟩
def tInS (K : PySem.W.Frag) (ty td : TE) : TE := fun σ H Q => ty σ H fun y H1 => td σ H1 fun x H2 => ∃ (a b : Addr) (kvs : List (List Key × V)) (k : List Key), x = .ref a ∧ y = .ref b ∧ H2 a = some (.dT kvs) ∧ SqT K H2 b (k.map kV) ∧ Q (.bl (valV kvs k).isSome) H2
theorem pc_inS {i o : Expr} {ty td : TE} (hu : X.A.units + 1 < cLine) (hi : PE X i ty) (ho : PE X o td) : PC X .In i o (tInS X.K ty td) := by
  refine ⟨fun pins s σ H Q I h => ?_⟩
  refine thn (hi.run pins s σ H _ I h) fun iv s1 ⟨y, H1, I1, ry, q1⟩ => thn (ho.run pins s1 σ H1 _ I1 q1) fun u s2 ⟨x, H2, I2, rx, q2⟩ => ?_
  obtain ⟨a, b, kvs, k, ex, ey, e, eb, q2⟩ := q2
  subst ex ey
  obtain rfl : u = Value.ref a := rx
  cases (show iv = Value.ref b from ry)
  obtain ⟨z, hd, xs, rel, dd⟩ := dt_rd I2.hok (.inl e)
  refine wpAny_in_heap (tupleKind_room_in1 hu) (key_sq I2 eb) hd dd ?_
  have q := (rel.val k).isSome_eq
  rw [Option.isSome_map] at q
  rw [← q]
  exact ⟨.bl (valV kvs k).isSome, H2, I2.tok _, rfl, q2⟩
end
section
variable {X : CxT} {K : KT} {e f : Expr} {te tf : TE} {we wf : We} {pos : Pos}
def wInT (wk wd : We) : We := fun ρ Q => wk ρ fun r ρ1 => match r with
  | .dat (.tup ds) => ok (keysOf ds) fun ks => wd ρ1 fun rd ρ2 => match rd with
    | .own (.dT kvs) => Q (.dat (.bl (getT kvs ks).isSome)) ρ2
    | _ => False
  | _ => False
theorem keysT_rp {K0 : PySem.W.Frag} {G : Hp} : ∀ {vs : List V} {ds : List PD} {ks : List Key}, RpAll K0 G vs ds → keysOf ds = some ks → vs = ks.map kV
  | _, _, _, .nil, h => by cases h; rfl
  | v :: vs, d :: ds, ks, .cons h r, e => by
    unfold keysOf at e
    cases hk : d.key with
    | none => rw [hk] at e; cases e
    | some k =>
      cases hs : keysOf ds with
      | none => rw [hk, hs] at e; cases e
      | some ks' =>
        rw [hk, hs] at e
        cases e
        rw [List.map_cons, ← keysT_rp r hs]
        have : v = kV k := by
          cases h <;> first | (cases hk; rfl) | (cases hk)
        rw [this]
theorem we_inT (hk : WE K te we) (hd : WE K tf wf) : WE K (tInS K te tf) (wInT we wf) := fun B G H σ ρ Q QV R q k =>
  hk B G H σ ρ _ _ R q fun y G1 H1 ρ1 r S1 R1 rr q1 => by
    match r, rr, q1 with
    | .dat (.tup ds), .dat rp, q1 =>
      obtain ⟨ks, ek, q1⟩ := ok_some q1
      cases rp with
      | tup hq ra =>
        have ev := keysT_rp ra ek
        refine hd B G1 H1 σ ρ1 _ _ R1 q1 fun x G2 H2 ρ2 rd S2 R2 rrd q2 => ?_
        match rd, rrd, q2 with
        | .own (.dT kvs), .own hp gp nb ro ns, q2 =>
          cases ro with
          | dT ek2 r2 =>
            have rk := RpKt.of ek2 r2
            subst ev
            refine ⟨_, _, _, ks, rfl, rfl, hp, ex_t R2.gh (ex_t S2.g hq), ?_⟩
            rw [getT_some rk]
            exact k _ G2 H2 ρ2 _ (S1.trans S2) R2 (.dat (.bl _)) q2
theorem de_inT (hu : X.cx.A.units + 1 < cLine) (hk : DE X e te we) (hd : DE X f tf wf) (h1 : behindInMarks .In f = false := by first | exact nomark _ | rfl) : DE X (.Compare e [.In] [f] pos) (tInS X.K te tf) (wInT we wf) := ⟨pe_cmp (pc_inS hu hk.pe hd.pe) h1, we_inT hk.we hd.we⟩
theorem de_inTK {KF : PySem.W.Frag} (hu : X.cx.A.units + 1 < cLine) (hk : DE X e te we) (hd : DE X f tf wf) (hK : X.cx.K = KF := by rfl) (h1 : behindInMarks .In f = false := by first | exact nomark _ | rfl) : DE X (.Compare e [.In] [f] pos) (tInS KF te tf) (wInT we wf) := by subst hK; exact de_inT hu hk hd h1
end
end DL

set_option Elab.async false
set_option linter.all false
set_option maxRecDepth 100000
set_option maxHeartbeats 4000000
namespace Lk
open PySem L2 DL
/-- the maker of the errors keeps its promise -/
structure Exx (P : Program) (w : World) (K : PySem.W.Frag) (mg : Str → Option Value) (base : Heap) (fI : Addr) : Prop where
  ex : ∃ fd, FnOk P w K mg base L2.CX0 1 fI fd ["self", "value"] (spErr K) ∧ Binds K fd ["self", "value"] []
theorem erc_of {P : Program} {w : World} {K : PySem.W.Frag} {mg : Str → Option Value} {base : Heap} {C fI : Addr} {x : Str} (E : Exx P w K mg base fI) (n : mg x = some (.ref C)) (T : ErrC K C fI) : Erc P w K mg base 1 x C fI := by
  obtain ⟨fd, h1, h2⟩ := E.ex
  exact ⟨fd, n, T, h1, h2⟩
theorem room66 {k : Nat} {A : Around} (hr : Room k A) : A.units + 66 < cLine := by have := hr.un; omega
def top (i : Nat) : Stmt := PySem.Challenge.pw_queueloops_k17_whole_scripts_of_pairs.main.body.getD i (.Pass ⟨0, 0, 0, 0⟩)
abbrev c_MOST_AT_SLOT : PD := .int 4
abbrev c_MOST_LATER : PD := .int 400
abbrev c_MOST_SIZE : PD := .int 400
abbrev c_WORDS : PD := .tup [.str "queue", .str "order", .str "any"]
def kb (j i : Nat) : Bool := i == j || j == 4
structure Gx (K : PySem.W.Frag) (mg : Str → Option Value) (cl : Nat → Addr) (fI : Addr) : Prop where
  b_abs : mg "abs" = none
  b_all : mg "all" = none
  b_any : mg "any" = none
  b_bool : mg "bool" = none
  b_enumerate : mg "enumerate" = none
  b_int : mg "int" = none
  b_isinstance : mg "isinstance" = none
  b_len : mg "len" = none
  b_list : mg "list" = none
  b_max : mg "max" = none
  b_min : mg "min" = none
  b_range : mg "range" = none
  b_repr : mg "repr" = none
  b_set : mg "set" = none
  b_str : mg "str" = none
  b_sum : mg "sum" = none
  b_tuple : mg "tuple" = none
  b_zip : mg "zip" = none
  ek : ∀ i, i < 5 → ErrC K (cl i) fI
  ki : ∀ j, j < 5 → ∀ i, i < 5 → PySem.W.kitOne K (.ref (cl i)) (.ref (cl j)) = some (kb j i)
  kx : ∀ i, i < 5 → PySem.W.exmOne K (.ref (cl i)) (.ref (cl 4)) = some true
  kv : ∀ i, i < 5 → PySem.W.kitOne K (.ref (cl i)) (.type "ValueError") = some true
  n_BadService : mg "BadService" = some (.ref (cl 0))
  n_BadSize : mg "BadSize" = some (.ref (cl 1))
  n_BadPair : mg "BadPair" = some (.ref (cl 2))
  n_NoPair : mg "NoPair" = some (.ref (cl 3))
  n_LoopError : mg "LoopError" = some (.ref (cl 4))
  c_MOST_AT_SLOT : Const K mg "MOST_AT_SLOT" c_MOST_AT_SLOT
  c_MOST_LATER : Const K mg "MOST_LATER" c_MOST_LATER
  c_MOST_SIZE : Const K mg "MOST_SIZE" c_MOST_SIZE
  c_WORDS : Const K mg "WORDS" c_WORDS

/-! _law_take -/
abbrev s__law_take : Stmt := top 28
abbrev N__law_take : List Str := ["pot", "upto", "prime", "blend", "digit"]
theorem sc__law_take : FnScope N__law_take ["pot", "upto"] (defScope s__law_take) := ⟨rfl, rfl, rfl, by decide +kernel, rfl, by decide +kernel, by decide +kernel⟩
def w__law_take (cl : Nat → Addr) (Ξ : Xp) : Ws := (wSeq (wIfS (wB (wBin (dI0 fun i j => .bl (decide (j < i))) (wBin dIx (wVar 0) (wC (.int 0))) (wC (.int 0)))) (wSeq (wSetF 4 (wBin (dI CPos fun i j => .int (i % j)) (wCB dInt (wCons (wBin dIx (wVar 0) (wC (.int 0))) wNil)) (wVar 1)))
  (wSeq (wSetIx 0 (wBin (dI CDivW fun i j => .int (i / j)) (wBin dIx (wVar 0) (wC (.int 0))) (wVar 1)) (wC (.int 0)))
  (wRet (wVar 4)))) wNext)
  (wSeq (wSetIx 0 (wBin dAdd (wBin dIx (wVar 0) (wC (.int 2))) (wC (.int 1))) (wC (.int 2)))
  (wSeq (wSetF 2 (wBin dIx (wLst (wCons (wC (.int 2147483647)) (wCons (wC (.int 2147483629)) (wCons (wC (.int 2147483587)) (wCons (wC (.int 2147483579)) (wCons (wC (.int 2147483563)) wNil)))))) (wBin (dI CPos fun i j => .int (i % j)) (wCB dInt (wCons (wBin dIx (wVar 0) (wC (.int 2))) wNil)) (wC (.int 5)))))
  (wSeq (wSetF 3 (wBin (dI CPos fun i j => .int (i % j)) (wCB dInt (wCons (wBin (dI CPowX fun i j => .int (i ^ j.toNat)) (wCB dInt (wCons (wBin dAdd (wBin dAdd (wBin dIx (wVar 0) (wC (.int 1))) (wBin (dI CMulX fun i j => .int (i * j)) (wBin (dI CMulX fun i j => .int (i * j)) (wC (.int 98257)) (wBin dIx (wVar 0) (wC (.int 2)))) (wBin dIx (wVar 0) (wC (.int 2))))) (wC (.int 431))) wNil)) (wC (.int 3))) wNil)) (wVar 2)))
  (wSeq (wSetF 3 (wBin (dI CPos fun i j => .int (i % j)) (wCB dInt (wCons (wBin (dI CMulX fun i j => .int (i * j)) (wVar 3) (wBin dAdd (wBin (dI CPos fun i j => .int (i % j)) (wCB dInt (wCons (wVar 3) wNil)) (wC (.int 10009))) (wBin (dI CMulX fun i j => .int (i * j)) (wC (.int 89)) (wBin dIx (wVar 0) (wC (.int 2)))))) wNil)) (wC (.int 2305843009213693907))))
  (wRet (wBin (dI CPos fun i j => .int (i % j)) (wCB dInt (wCons (wBin (dI CDivW fun i j => .int (i / j)) (wVar 3) (wC (.int 173))) wNil)) (wVar 1))))))))
def F__law_take (cl : Nat → Addr) : Fd := mkF (pin [0, 1]) 5 (w__law_take cl)
theorem cal__law_take {P : Program} {w : World} {K : PySem.W.Frag} {Ts : List (Addr × Str)} {mg : Str → Option Value} {base : Heap} {cl : Nat → Addr} {fI : Addr} (G : Gx K mg cl fI) (EX : Exx P w K mg base fI) (D : Dfn K mg "_law_take" s__law_take none)  : CalS P w K Ts mg base 1 "_law_take" s__law_take ["pot", "upto"] (F__law_take cl) :=
  cal_of D sc__law_take fun f cdv hcd A outer s H E B G0 Ξ lk hr hgd => ⟨_, (dss_cons (ds_if (dt_cmp dc_gt (de_ix (dv 0) de_int) de_int) (dss_cons (ds_setF rfl sc__law_take.nd rfl (by first | exact Or.inl rfl | exact Or.inr rfl) (de_mod (de_callT db_int G.b_int (by decide +kernel) (da_cons (de_ix (dv 0) de_int) da_nil)) (dv 1)))
      (dss_cons (ds_setIx (de_fdiv (de_ix (dv 0) de_int) (dv 1)) (dv 0) de_int)
      (dss_one (ds_ret (dv 4))))) dss_nil)
      (dss_cons (ds_setIx (de_add (de_ix (dv 0) de_int) de_int) (dv 0) de_int)
      (dss_cons (ds_setF rfl sc__law_take.nd rfl (by first | exact Or.inl rfl | exact Or.inr rfl) (de_ix (de_lst (da_cons de_int (da_cons de_int (da_cons de_int (da_cons de_int (da_cons de_int da_nil)))))) (de_mod (de_callT db_int G.b_int (by decide +kernel) (da_cons (de_ix (dv 0) de_int) da_nil)) de_int)))
      (dss_cons (ds_setF rfl sc__law_take.nd rfl (by first | exact Or.inl rfl | exact Or.inr rfl) (de_mod (de_callT db_int G.b_int (by decide +kernel) (da_cons (de_pow (de_callT db_int G.b_int (by decide +kernel) (da_cons (de_add (de_add (de_ix (dv 0) de_int) (de_mul (de_mul de_int (de_ix (dv 0) de_int)) (de_ix (dv 0) de_int))) de_int) da_nil)) de_int) da_nil)) (dv 2)))
      (dss_cons (ds_setF rfl sc__law_take.nd rfl (by first | exact Or.inl rfl | exact Or.inr rfl) (de_mod (de_callT db_int G.b_int (by decide +kernel) (da_cons (de_mul (dv 3) (de_add (de_mod (de_callT db_int G.b_int (by decide +kernel) (da_cons (dv 3) da_nil)) de_int) (de_mul de_int (de_ix (dv 0) de_int)))) da_nil)) de_int))
      (dss_one (ds_ret (de_mod (de_callT db_int G.b_int (by decide +kernel) (da_cons (de_fdiv (dv 3) de_int) da_nil)) (dv 1)))))))))⟩

/-! _law_of -/
abbrev s__law_of : Stmt := top 29
abbrev N__law_of : List Str := ["pot", "some"]
theorem sc__law_of : FnScope N__law_of ["pot", "some"] (defScope s__law_of) := ⟨rfl, rfl, rfl, by decide +kernel, rfl, by decide +kernel, by decide +kernel⟩
def w__law_of (cl : Nat → Addr) (Ξ : Xp) : Ws := (wRet (wBin dIx (wVar 1) (wCall 2 (F__law_take cl) noX (wCons (wVar 0) (wCons (wCB dLen (wCons (wVar 1) wNil)) wNil)))))
def F__law_of (cl : Nat → Addr) : Fd := mkF (pin [0, 1]) 2 (w__law_of cl)
theorem cal__law_of {P : Program} {w : World} {K : PySem.W.Frag} {Ts : List (Addr × Str)} {mg : Str → Option Value} {base : Heap} {cl : Nat → Addr} {fI : Addr} (G : Gx K mg cl fI) (EX : Exx P w K mg base fI) (D : Dfn K mg "_law_of" s__law_of none) (C__law_take : Cal P w K Ts mg base 1 "_law_take" ["pot", "upto"] (F__law_take cl)) : CalS P w K Ts mg base 2 "_law_of" s__law_of ["pot", "some"] (F__law_of cl) :=
  cal_of D sc__law_of fun f cdv hcd A outer s H E B G0 Ξ lk hr hgd => ⟨_, (dss_one (ds_ret (de_ix (dv 1) (by exact de_calN (KF := K) (Ts := Ts) C__law_take (hr.mono (by decide : 1 ≤ 1)) hgd (by exact (da_cons (dv 0) (da_cons (de_callB db_len G.b_len (by decide +kernel) (da_cons (dv 1) da_nil)) da_nil)))))))⟩

/-! _law_service -/
abbrev s__law_service : Stmt := top 31
abbrev N__law_service : List Str := ["pot"]
theorem sc__law_service : FnScope N__law_service ["pot"] (defScope s__law_service) := ⟨rfl, rfl, rfl, by decide +kernel, rfl, by decide +kernel, by decide +kernel⟩
def w__law_service (cl : Nat → Addr) (Ξ : Xp) : Ws := (wRet (wTup (wCons (wCall 2 (F__law_of cl) noX (wCons (wVar 0) (wCons (wLst (wCons (wC (.str "queue")) (wCons (wC (.str "queue")) (wCons (wC (.str "order")) (wCons (wC (.str "any")) wNil))))) wNil))) (wCons (wCB dInt (wCons (wCall 2 (F__law_of cl) noX (wCons (wVar 0) (wCons (wLst (wCons (wC (.int 1)) (wCons (wC (.int 2)) (wCons (wC (.int 2)) (wCons (wC (.int 3)) (wCons (wC (.int 4)) wNil)))))) wNil))) wNil)) wNil))))
def F__law_service (cl : Nat → Addr) : Fd := mkF (pin [0]) 1 (w__law_service cl)
theorem cal__law_service {P : Program} {w : World} {K : PySem.W.Frag} {Ts : List (Addr × Str)} {mg : Str → Option Value} {base : Heap} {cl : Nat → Addr} {fI : Addr} (G : Gx K mg cl fI) (EX : Exx P w K mg base fI) (D : Dfn K mg "_law_service" s__law_service none) (C__law_of : Cal P w K Ts mg base 2 "_law_of" ["pot", "some"] (F__law_of cl)) : CalS P w K Ts mg base 3 "_law_service" s__law_service ["pot"] (F__law_service cl) :=
  cal_of D sc__law_service fun f cdv hcd A outer s H E B G0 Ξ lk hr hgd => ⟨_, (dss_one (ds_ret (de_tup (da_cons (by exact de_calN (KF := K) (Ts := Ts) C__law_of (hr.mono (by decide : 2 ≤ 2)) hgd (by exact (da_cons (dv 0) (da_cons (de_lst (da_cons de_str (da_cons de_str (da_cons de_str (da_cons de_str da_nil))))) da_nil)))) (da_cons (de_callT db_int G.b_int (by decide +kernel) (da_cons (by exact de_calN (KF := K) (Ts := Ts) C__law_of (hr.mono (by decide : 2 ≤ 2)) hgd (by exact (da_cons (dv 0) (da_cons (de_lst (da_cons de_int (da_cons de_int (da_cons de_int (da_cons de_int (da_cons de_int da_nil)))))) da_nil)))) da_nil)) da_nil)))))⟩

/-! _law_pair -/
abbrev s__law_pair : Stmt := top 44
abbrev N__law_pair : List Str := ["pot", "service", "size", "least", "x", "y"]
theorem sc__law_pair : FnScope N__law_pair ["pot", "service", "size"] (defScope s__law_pair) := ⟨rfl, rfl, rfl, by decide +kernel, rfl, by decide +kernel, by decide +kernel⟩
def w__law_pair (cl : Nat → Addr) (Ξ : Xp) : Ws := (wSeq (wPuts [4, 5] (wConsH (wCB dInt (wCons (wCall 2 (F__law_take cl) noX (wCons (wVar 0) (wCons (wBin dAdd (wVar 2) (wC (.int 1))) wNil))) wNil)) (wConsH (wCB dInt (wCons (wCall 2 (F__law_take cl) noX (wCons (wVar 0) (wCons (wBin dAdd (wVar 2) (wC (.int 1))) wNil))) wNil)) wNil)))
  (wSeq (wIfS (wAnd (wB (wBin dEq (wBin dIx (wVar 1) (wC (.int 0))) (wC (.str "queue")))) (wAnd (wB (wBin dEq (wBin dIx (wVar 1) (wC (.int 1))) (wC (.int 1)))) (wB (wBin (dI0 fun i j => .bl (decide (j < i))) (wCall 2 (F__law_take cl) noX (wCons (wVar 0) (wCons (wC (.int 4)) wNil))) (wC (.int 0)))))) (wUnp (wTup (wCons (wC (.int 0)) (wCons (wC (.int 0)) wNil))) (wgTup 2 (wgCons (wName 4) (wgCons (wName 5) wgNil)))) wNext)
  (wSeq (wSetF 3 (wCB dMax2 (wCons (wC (.int 0)) (wCons (wBin dAdd (wBin (dI0 fun i j => .int (i - j)) (wVar 4) (wVar 5)) (wC (.int 1))) wNil))))
  (wRet (wTup (wCons (wVar 4) (wCons (wVar 5) (wCons (wCB dInt (wCons (wCall 2 (F__law_of cl) noX (wCons (wVar 0) (wCons (wLst (wCons (wVar 3) (wCons (wVar 3) (wCons (wBin dAdd (wVar 3) (wC (.int 1))) (wCons (wBin dAdd (wVar 3) (wCall 2 (F__law_take cl) noX (wCons (wVar 0) (wCons (wC (.int 6)) wNil)))) (wCons (wCall 2 (F__law_take cl) noX (wCons (wVar 0) (wCons (wC (.int 5)) wNil))) wNil)))))) wNil))) wNil)) wNil))))))))
def F__law_pair (cl : Nat → Addr) : Fd := mkF (pin [0, 1, 2]) 6 (w__law_pair cl)
theorem cal__law_pair {P : Program} {w : World} {K : PySem.W.Frag} {Ts : List (Addr × Str)} {mg : Str → Option Value} {base : Heap} {cl : Nat → Addr} {fI : Addr} (G : Gx K mg cl fI) (EX : Exx P w K mg base fI) (D : Dfn K mg "_law_pair" s__law_pair none) (C__law_of : Cal P w K Ts mg base 2 "_law_of" ["pot", "some"] (F__law_of cl)) (C__law_take : Cal P w K Ts mg base 1 "_law_take" ["pot", "upto"] (F__law_take cl)) : CalS P w K Ts mg base 3 "_law_pair" s__law_pair ["pot", "service", "size"] (F__law_pair cl) :=
  cal_of D sc__law_pair fun f cdv hcd A outer s H E B G0 Ξ lk hr hgd => ⟨_, (dss_cons (ds_puts2 rfl rfl sc__law_pair.nd rfl rfl (by decide) rfl rfl (dah_cons (de_callT db_int G.b_int (by decide +kernel) (da_cons (by exact de_calN (KF := K) (Ts := Ts) C__law_take (hr.mono (by decide : 1 ≤ 2)) hgd (by exact (da_cons (dv 0) (da_cons (de_add (dv 2) de_int) da_nil)))) da_nil)) (dah_cons (de_callT db_int G.b_int (by decide +kernel) (da_cons (by exact de_calN (KF := K) (Ts := Ts) C__law_take (hr.mono (by decide : 1 ≤ 2)) hgd (by exact (da_cons (dv 0) (da_cons (de_add (dv 2) de_int) da_nil)))) da_nil)) dah_nil)) (by rfl))
      (dss_cons (ds_if (DW.dt (dw_and (dt_cmp (dc_eq hr.units) (de_ix (dv 1) de_int) de_str) (dw_and (dt_cmp (dc_eq hr.units) (de_ix (dv 1) de_int) de_int) (dw_and1 (dt_cmp dc_gt (by exact de_calN (KF := K) (Ts := Ts) C__law_take (hr.mono (by decide : 1 ≤ 2)) hgd (by exact (da_cons (dv 0) (da_cons de_int da_nil)))) de_int))))) (dss_one (ds_unp (de_tup (da_cons de_int (da_cons de_int da_nil))) (dg_tup rfl (dgs_cons (dg_name rfl sc__law_pair.nd rfl (by first | exact Or.inl rfl | exact Or.inr rfl)) (dgs_cons (dg_name rfl sc__law_pair.nd rfl (by first | exact Or.inl rfl | exact Or.inr rfl)) dgs_nil))))) dss_nil)
      (dss_cons (ds_setF rfl sc__law_pair.nd rfl (by first | exact Or.inl rfl | exact Or.inr rfl) (de_callB (db_max2 rfl) G.b_max (by decide +kernel) (da_cons de_int (da_cons (de_add (de_sub (dv 4) (dv 5)) de_int) da_nil))))
      (dss_one (ds_ret (de_tup (da_cons (dv 4) (da_cons (dv 5) (da_cons (de_callT db_int G.b_int (by decide +kernel) (da_cons (by exact de_calN (KF := K) (Ts := Ts) C__law_of (hr.mono (by decide : 2 ≤ 2)) hgd (by exact (da_cons (dv 0) (da_cons (de_lst (da_cons (dv 3) (da_cons (dv 3) (da_cons (de_add (dv 3) de_int) (da_cons (de_add (dv 3) (by exact de_calN (KF := K) (Ts := Ts) C__law_take (hr.mono (by decide : 1 ≤ 2)) hgd (by exact (da_cons (dv 0) (da_cons de_int da_nil))))) (da_cons (by exact de_calN (KF := K) (Ts := Ts) C__law_take (hr.mono (by decide : 1 ≤ 2)) hgd (by exact (da_cons (dv 0) (da_cons de_int da_nil)))) da_nil)))))) da_nil)))) da_nil)) da_nil)))))))))⟩

/-! _law_heard -/
abbrev s__law_heard : Stmt := top 42
abbrev N__law_heard : List Str := ["deed", "error"]
theorem sc__law_heard : FnScope N__law_heard ["deed"] (defScope s__law_heard) := ⟨rfl, rfl, rfl, by decide +kernel, rfl, by decide +kernel, by decide +kernel⟩
def w__law_heard (cl : Nat → Addr) (fa : Addr) (gp : Hp) (L : Lm1) : Ws := (wTry 1 [] 5 cl (fun Ξ => (wRet (wTup (wCons (wC .non) (wCons (wAct fa gp L Ξ) wNil))))) (wRet (wTup (wCons (wVar 1) (wCons (wC .non) wNil)))))
def F__law_heard (cl : Nat → Addr) : Lm1 → (Rz → Prop) → Prop := fun L Q => ∀ fa gp, w__law_heard cl fa gp L { nx := fun _ => Q (.dat .non), rt := fun r _ => r.free = true ∧ Q r } (.dat (.fn fa gp) :: List.replicate (N__law_heard.length - 1) .emp)
theorem hrd__law_heard {P : Program} {w : World} {K : PySem.W.Frag} {Ts : List (Addr × Str)} {mg : Str → Option Value} {base : Heap} {cl : Nat → Addr} {fI : Addr} (G : Gx K mg cl fI) (EX : Exx P w K mg base fI) (D : Dfn K mg "_law_heard" s__law_heard none) (hb : ∀ (kV doc pm : Value) (an : Option Addr) (cdv ct : Value) (us : List Value), us.length = 1 → bindArgs (PySem.W.fnOf "_law_heard" "_law_heard" (defArgs s__law_heard) (defBody s__law_heard) (defScope s__law_heard) .none kV doc pm an cdv ct) ⟨us, []⟩ = pure ((["deed"] : List Str).zip us)) : Hrd P w K Ts mg base "_law_heard" "deed" (F__law_heard cl) := by
  obtain ⟨g, oc, kV, doc, pm, cdv, ct, od, an, osl, h1, h2, h3, h4, _⟩ := D.ex
  exact ⟨g, _, _, _, _, kV, doc, pm, cdv, ct, oc, an, od, osl, N__law_heard, pin [0], w__law_heard cl, h1, h2, h3, h4, .all (hb kV doc pm an cdv ct), sc__law_heard, rfl, Or.inl rfl, fun A outer s H hr B G0 fa gp tA L act => ⟨_, (dss_one (ds_try2 (cl := cl) (N := 5) rfl rfl rfl sc__law_heard.nd rfl rfl ⟨rfl, rfl, .inl G.n_LoopError⟩ (fun j hj => G.kx j hj) rfl rfl (asg := []) (fun W pn xe po tk B0 G0 H0 Ξ lk => dss_one (ds_ret (de_tup (da_cons de_non (da_cons (act.1 W pn xe po tk B0 G0 H0 Ξ lk _ _) da_nil))))) (fun W D σ H h => act.2 W σ H _ h) (fun a => (dss_one (ds_ret (de_tup (da_cons (dv 1) (da_cons de_non da_nil))))))))⟩, fun L Q h => h⟩

/-! _law_can_be -/
abbrev s__law_can_be : Stmt := top 38
abbrev N__law_can_be : List Str := ["service", "size", "pair", "gap", "x", "y", "d", "word", "n"]
theorem sc__law_can_be : FnScope N__law_can_be ["service", "size", "pair"] (defScope s__law_can_be) := ⟨rfl, rfl, rfl, by decide +kernel, rfl, by decide +kernel, by decide +kernel⟩
def w__law_can_be (cl : Nat → Addr) (Ξ : Xp) : Ws := (wSeq (wUnp (wVar 2) (wgTup 3 (wgCons (wName 4) (wgCons (wName 5) (wgCons (wName 6) wgNil)))))
  (wSeq (wUnp (wVar 0) (wgTup 2 (wgCons (wName 7) (wgCons (wName 8) wgNil))))
  (wSeq (wIfS (wOr (wB (wBin (dI0 fun i j => .bl (decide (j < i))) (wCB dMax2 (wCons (wVar 4) (wCons (wVar 5) wNil))) (wVar 1))) (wAnd (wB (wBin dEq (wVar 8) (wC (.int 1)))) (wB (wBin dEq (wVar 6) (wC (.int 0)))))) (wRet (wC (.bl false))) wNext)
  (wSeq (wSetF 3 (wBin (dI0 fun i j => .int (i - j)) (wBin dAdd (wVar 6) (wVar 5)) (wVar 4)))
  (wSeq (wIfS (wB (wBin dEq (wVar 7) (wC (.str "any")))) (wRet (wBin dNeX (wVar 3) (wC (.int 0)))) wNext)
  (wSeq (wIfS (wB (wBin dEq (wVar 7) (wC (.str "order")))) (wRet (wBin (dI0 fun i j => .bl (decide (j ≤ i))) (wVar 3) (wC (.int 1)))) wNext)
  (wRet (wIf (wB (wBin dEq (wVar 8) (wC (.int 1)))) (wAndV (wBin dEq (wVar 4) (wC (.int 0))) (wBin dEq (wVar 5) (wC (.int 0)))) (wChain (dI0 fun i j => .bl (decide (i ≤ j))) (dI0 fun i j => .bl (decide (i ≤ j))) (wC (.int 1)) (wVar 3) (wBin (dI0 fun i j => .int (i - j)) (wBin dAdd (wBin (dI CMulX fun i j => .int (i * j)) (wVar 8) (wVar 6)) (wVar 8)) (wC (.int 1))))))))))))
def F__law_can_be (cl : Nat → Addr) : Fd := mkF (pin [0, 1, 2]) 9 (w__law_can_be cl)
theorem cal__law_can_be {P : Program} {w : World} {K : PySem.W.Frag} {Ts : List (Addr × Str)} {mg : Str → Option Value} {base : Heap} {cl : Nat → Addr} {fI : Addr} (G : Gx K mg cl fI) (EX : Exx P w K mg base fI) (D : Dfn K mg "_law_can_be" s__law_can_be none)  : CalS P w K Ts mg base 1 "_law_can_be" s__law_can_be ["service", "size", "pair"] (F__law_can_be cl) :=
  cal_of D sc__law_can_be fun f cdv hcd A outer s H E B G0 Ξ lk hr hgd => ⟨_, (dss_cons (ds_unp (dv 2) (dg_tup rfl (dgs_cons (dg_name rfl sc__law_can_be.nd rfl (by first | exact Or.inl rfl | exact Or.inr rfl)) (dgs_cons (dg_name rfl sc__law_can_be.nd rfl (by first | exact Or.inl rfl | exact Or.inr rfl)) (dgs_cons (dg_name rfl sc__law_can_be.nd rfl (by first | exact Or.inl rfl | exact Or.inr rfl)) dgs_nil)))))
      (dss_cons (ds_unp (dv 0) (dg_tup rfl (dgs_cons (dg_name rfl sc__law_can_be.nd rfl (by first | exact Or.inl rfl | exact Or.inr rfl)) (dgs_cons (dg_name rfl sc__law_can_be.nd rfl (by first | exact Or.inl rfl | exact Or.inr rfl)) dgs_nil))))
      (dss_cons (ds_if (DW.dt (dw_or (dt_cmp dc_gt (de_callB (db_max2 rfl) G.b_max (by decide +kernel) (da_cons (dv 4) (da_cons (dv 5) da_nil))) (dv 1)) (dw_or1 (DW.dt (dw_and (dt_cmp (dc_eq hr.units) (dv 8) de_int) (dw_and1 (dt_cmp (dc_eq hr.units) (dv 6) de_int))))))) (dss_one (ds_ret de_bl)) dss_nil)
      (dss_cons (ds_setF rfl sc__law_can_be.nd rfl (by first | exact Or.inl rfl | exact Or.inr rfl) (de_sub (de_add (dv 6) (dv 5)) (dv 4)))
      (dss_cons (ds_if (dt_cmp (dc_eq hr.units) (dv 7) de_str) (dss_one (ds_ret (de_cmp (dc_neX hr.units) (dv 3) de_int))) dss_nil)
      (dss_cons (ds_if (dt_cmp (dc_eq hr.units) (dv 7) de_str) (dss_one (ds_ret (de_cmp dc_ge (dv 3) de_int))) dss_nil)
      (dss_one (ds_ret (de_if (dt_cmp (dc_eq hr.units) (dv 8) de_int) (de_and (de_cmp (dc_eq hr.units) (dv 4) de_int) (de_one (de_cmp (dc_eq hr.units) (dv 5) de_int))) (de_chain dc_le dc_le de_int (dv 3) (de_sub (de_add (de_mul (dv 8) (dv 6)) (dv 8)) de_int)))))))))))⟩

/-! is_number -/
abbrev s_is_number : Stmt := top 7
abbrev N_is_number : List Str := ["value"]
theorem sc_is_number : FnScope N_is_number ["value"] (defScope s_is_number) := ⟨rfl, rfl, rfl, by decide +kernel, rfl, by decide +kernel, by decide +kernel⟩
def w_is_number (cl : Nat → Addr) (Ξ : Xp) : Ws := (wRet (wAndV (wIsi "int" (wVar 0)) (wNotV (wIsi "bool" (wVar 0)))))
def F_is_number (cl : Nat → Addr) : Fd := mkF (pin [0]) 1 (w_is_number cl)
theorem cal_is_number {P : Program} {w : World} {K : PySem.W.Frag} {Ts : List (Addr × Str)} {mg : Str → Option Value} {base : Heap} {cl : Nat → Addr} {fI : Addr} (G : Gx K mg cl fI) (EX : Exx P w K mg base fI) (D : Dfn K mg "is_number" s_is_number none)  : CalS P w K Ts mg base 1 "is_number" s_is_number ["value"] (F_is_number cl) :=
  cal_of D sc_is_number fun f cdv hcd A outer s H E B G0 Ξ lk hr hgd => ⟨_, (dss_one (ds_ret (de_and (de_isi (by decide +kernel) G.b_isinstance G.b_int (by decide +kernel) (dv 0)) (de_one (de_not (de_isi (by decide +kernel) G.b_isinstance G.b_bool (by decide +kernel) (dv 0)))))))⟩

/-! is_within -/
abbrev s_is_within : Stmt := top 8
abbrev N_is_within : List Str := ["value", "low", "high"]
theorem sc_is_within : FnScope N_is_within ["value", "low", "high"] (defScope s_is_within) := ⟨rfl, rfl, rfl, by decide +kernel, rfl, by decide +kernel, by decide +kernel⟩
def w_is_within (cl : Nat → Addr) (Ξ : Xp) : Ws := (wRet (wAndV (wCall 1 (F_is_number cl) noX (wCons (wVar 0) wNil)) (wChain (dI0 fun i j => .bl (decide (i ≤ j))) (dI0 fun i j => .bl (decide (i ≤ j))) (wVar 1) (wVar 0) (wVar 2))))
def F_is_within (cl : Nat → Addr) : Fd := mkF (pin [0, 1, 2]) 3 (w_is_within cl)
theorem cal_is_within {P : Program} {w : World} {K : PySem.W.Frag} {Ts : List (Addr × Str)} {mg : Str → Option Value} {base : Heap} {cl : Nat → Addr} {fI : Addr} (G : Gx K mg cl fI) (EX : Exx P w K mg base fI) (D : Dfn K mg "is_within" s_is_within none) (C_is_number : Cal P w K Ts mg base 1 "is_number" ["value"] (F_is_number cl)) : CalS P w K Ts mg base 2 "is_within" s_is_within ["value", "low", "high"] (F_is_within cl) :=
  cal_of D sc_is_within fun f cdv hcd A outer s H E B G0 Ξ lk hr hgd => ⟨_, (dss_one (ds_ret (de_and (by exact de_calN (KF := K) (Ts := Ts) C_is_number (hr.mono (by decide : 1 ≤ 1)) hgd (by exact (da_cons (dv 0) da_nil))) (de_one (de_chain dc_le dc_le (dv 1) (dv 0) (dv 2))))))⟩

/-! is_service -/
abbrev s_is_service : Stmt := top 13
abbrev N_is_service : List Str := ["value", "word", "most"]
theorem sc_is_service : FnScope N_is_service ["value"] (defScope s_is_service) := ⟨rfl, rfl, rfl, by decide +kernel, rfl, by decide +kernel, by decide +kernel⟩
def w_is_service (cl : Nat → Addr) (Ξ : Xp) : Ws := (wSeq (wIfS (wOr (wNot (wB (wIsi "tuple" (wVar 0)))) (wB (wBin dNeX (wCB dLen (wCons (wVar 0) wNil)) (wC (.int 2))))) (wRet (wC (.bl false))) wNext)
  (wSeq (wUnp (wVar 0) (wgTup 2 (wgCons (wName 1) (wgCons (wName 2) wgNil))))
  (wRet (wAndV (wIsi "str" (wVar 1)) (wAndV (wBin (dIn false) (wVar 1) (wC c_WORDS)) (wCall 3 (F_is_within cl) noX (wCons (wVar 2) (wCons (wC (.int 1)) (wCons (wC c_MOST_AT_SLOT) wNil)))))))))
def F_is_service (cl : Nat → Addr) : Fd := mkF (pin [0]) 3 (w_is_service cl)
theorem cal_is_service {P : Program} {w : World} {K : PySem.W.Frag} {Ts : List (Addr × Str)} {mg : Str → Option Value} {base : Heap} {cl : Nat → Addr} {fI : Addr} (G : Gx K mg cl fI) (EX : Exx P w K mg base fI) (D : Dfn K mg "is_service" s_is_service none) (C_is_within : Cal P w K Ts mg base 2 "is_within" ["value", "low", "high"] (F_is_within cl)) : CalS P w K Ts mg base 3 "is_service" s_is_service ["value"] (F_is_service cl) :=
  cal_of D sc_is_service fun f cdv hcd A outer s H E B G0 Ξ lk hr hgd => ⟨_, (dss_cons (ds_if (DW.dt (dw_or (dt_not (dt_val (de_isi (by decide +kernel) G.b_isinstance G.b_tuple (by decide +kernel) (dv 0)))) (dw_or1 (dt_cmp (dc_neX hr.units) (de_callB db_len G.b_len (by decide +kernel) (da_cons (dv 0) da_nil)) de_int)))) (dss_one (ds_ret de_bl)) dss_nil)
      (dss_cons (ds_unp (dv 0) (dg_tup rfl (dgs_cons (dg_name rfl sc_is_service.nd rfl (by first | exact Or.inl rfl | exact Or.inr rfl)) (dgs_cons (dg_name rfl sc_is_service.nd rfl (by first | exact Or.inl rfl | exact Or.inr rfl)) dgs_nil))))
      (dss_one (ds_ret (de_and (de_isi (by decide +kernel) G.b_isinstance G.b_str (by decide +kernel) (dv 1)) (de_and (de_cmp dc_in (dv 1) (de_constK G.c_WORDS)) (de_one (by exact de_calN (KF := K) (Ts := Ts) C_is_within (hr.mono (by decide : 2 ≤ 2)) hgd (by exact (da_cons (dv 2) (da_cons de_int (da_cons (de_constK G.c_MOST_AT_SLOT) da_nil))))))))))))⟩

/-! check_service -/
abbrev s_check_service : Stmt := top 14
abbrev N_check_service : List Str := ["service"]
theorem sc_check_service : FnScope N_check_service ["service"] (defScope s_check_service) := ⟨rfl, rfl, rfl, by decide +kernel, rfl, by decide +kernel, by decide +kernel⟩
def w_check_service (cl : Nat → Addr) (Ξ : Xp) : Ws := (wIfS (wNot (wB (wCall 1 (F_is_service cl) noX (wCons (wVar 0) wNil)))) (wRaise (cl 0) Ξ (wCons (wVar 0) wNil)) wNext)
def F_check_service (cl : Nat → Addr) : Fd := mkF (pin [0]) 1 (w_check_service cl)
theorem cal_check_service {P : Program} {w : World} {K : PySem.W.Frag} {Ts : List (Addr × Str)} {mg : Str → Option Value} {base : Heap} {cl : Nat → Addr} {fI : Addr} (G : Gx K mg cl fI) (EX : Exx P w K mg base fI) (D : Dfn K mg "check_service" s_check_service none) (C_is_service : Cal P w K Ts mg base 3 "is_service" ["value"] (F_is_service cl)) : CalS P w K Ts mg base 4 "check_service" s_check_service ["service"] (F_check_service cl) :=
  cal_of D sc_check_service fun f cdv hcd A outer s H E B G0 Ξ lk hr hgd => ⟨_, (dss_one (ds_if (dt_not (dt_val (by exact de_calN (KF := K) (Ts := Ts) C_is_service (hr.mono (by decide : 3 ≤ 3)) hgd (by exact (da_cons (dv 0) da_nil))))) (dss_one (ds_raise (erc_of (x := "BadService") EX G.n_BadService (G.ek 0 (by decide))) (hr.mono (by decide : 2 ≤ 3)) rfl (da_cons (dv 0) da_nil))) dss_nil))⟩

/-! check_size -/
abbrev s_check_size : Stmt := top 15
abbrev N_check_size : List Str := ["size"]
theorem sc_check_size : FnScope N_check_size ["size"] (defScope s_check_size) := ⟨rfl, rfl, rfl, by decide +kernel, rfl, by decide +kernel, by decide +kernel⟩
def w_check_size (cl : Nat → Addr) (Ξ : Xp) : Ws := (wIfS (wNot (wB (wCall 3 (F_is_within cl) noX (wCons (wVar 0) (wCons (wC (.int 0)) (wCons (wC c_MOST_SIZE) wNil)))))) (wRaise (cl 1) Ξ (wCons (wVar 0) wNil)) wNext)
def F_check_size (cl : Nat → Addr) : Fd := mkF (pin [0]) 1 (w_check_size cl)
theorem cal_check_size {P : Program} {w : World} {K : PySem.W.Frag} {Ts : List (Addr × Str)} {mg : Str → Option Value} {base : Heap} {cl : Nat → Addr} {fI : Addr} (G : Gx K mg cl fI) (EX : Exx P w K mg base fI) (D : Dfn K mg "check_size" s_check_size none) (C_is_within : Cal P w K Ts mg base 2 "is_within" ["value", "low", "high"] (F_is_within cl)) : CalS P w K Ts mg base 3 "check_size" s_check_size ["size"] (F_check_size cl) :=
  cal_of D sc_check_size fun f cdv hcd A outer s H E B G0 Ξ lk hr hgd => ⟨_, (dss_one (ds_if (dt_not (dt_val (by exact de_calN (KF := K) (Ts := Ts) C_is_within (hr.mono (by decide : 2 ≤ 2)) hgd (by exact (da_cons (dv 0) (da_cons de_int (da_cons (de_constK G.c_MOST_SIZE) da_nil))))))) (dss_one (ds_raise (erc_of (x := "BadSize") EX G.n_BadSize (G.ek 1 (by decide))) (hr.mono (by decide : 2 ≤ 2)) rfl (da_cons (dv 0) da_nil))) dss_nil))⟩

/-! check_pair -/
abbrev s_check_pair : Stmt := top 18
abbrev N_check_pair : List Str := ["size", "pair", "ahead", "behind", "later"]
theorem sc_check_pair : FnScope N_check_pair ["size", "pair"] (defScope s_check_pair) := ⟨rfl, rfl, rfl, by decide +kernel, rfl, by decide +kernel, by decide +kernel⟩
def w_check_pair (cl : Nat → Addr) (Ξ : Xp) : Ws := (wSeq (wIfS (wOr (wNot (wB (wIsi "tuple" (wVar 1)))) (wB (wBin dNeX (wCB dLen (wCons (wVar 1) wNil)) (wC (.int 3))))) (wRaise (cl 2) Ξ (wCons (wVar 1) wNil)) wNext)
  (wSeq (wUnp (wVar 1) (wgTup 3 (wgCons (wName 2) (wgCons (wName 3) (wgCons (wName 4) wgNil)))))
  (wIfS (wNot (wAnd (wB (wCall 3 (F_is_within cl) noX (wCons (wVar 2) (wCons (wC (.int 0)) (wCons (wVar 0) wNil))))) (wAnd (wB (wCall 3 (F_is_within cl) noX (wCons (wVar 3) (wCons (wC (.int 0)) (wCons (wVar 0) wNil))))) (wB (wCall 3 (F_is_within cl) noX (wCons (wVar 4) (wCons (wC (.int 0)) (wCons (wC c_MOST_LATER) wNil)))))))) (wRaise (cl 2) Ξ (wCons (wVar 1) wNil)) wNext)))
def F_check_pair (cl : Nat → Addr) : Fd := mkF (pin [0, 1]) 5 (w_check_pair cl)
theorem cal_check_pair {P : Program} {w : World} {K : PySem.W.Frag} {Ts : List (Addr × Str)} {mg : Str → Option Value} {base : Heap} {cl : Nat → Addr} {fI : Addr} (G : Gx K mg cl fI) (EX : Exx P w K mg base fI) (D : Dfn K mg "check_pair" s_check_pair none) (C_is_within : Cal P w K Ts mg base 2 "is_within" ["value", "low", "high"] (F_is_within cl)) : CalS P w K Ts mg base 3 "check_pair" s_check_pair ["size", "pair"] (F_check_pair cl) :=
  cal_of D sc_check_pair fun f cdv hcd A outer s H E B G0 Ξ lk hr hgd => ⟨_, (dss_cons (ds_if (DW.dt (dw_or (dt_not (dt_val (de_isi (by decide +kernel) G.b_isinstance G.b_tuple (by decide +kernel) (dv 1)))) (dw_or1 (dt_cmp (dc_neX hr.units) (de_callB db_len G.b_len (by decide +kernel) (da_cons (dv 1) da_nil)) de_int)))) (dss_one (ds_raise (erc_of (x := "BadPair") EX G.n_BadPair (G.ek 2 (by decide))) (hr.mono (by decide : 2 ≤ 2)) rfl (da_cons (dv 1) da_nil))) dss_nil)
      (dss_cons (ds_unp (dv 1) (dg_tup rfl (dgs_cons (dg_name rfl sc_check_pair.nd rfl (by first | exact Or.inl rfl | exact Or.inr rfl)) (dgs_cons (dg_name rfl sc_check_pair.nd rfl (by first | exact Or.inl rfl | exact Or.inr rfl)) (dgs_cons (dg_name rfl sc_check_pair.nd rfl (by first | exact Or.inl rfl | exact Or.inr rfl)) dgs_nil)))))
      (dss_one (ds_if (dt_not (DW.dt (dw_and (dt_val (by exact de_calN (KF := K) (Ts := Ts) C_is_within (hr.mono (by decide : 2 ≤ 2)) hgd (by exact (da_cons (dv 2) (da_cons de_int (da_cons (dv 0) da_nil)))))) (dw_and (dt_val (by exact de_calN (KF := K) (Ts := Ts) C_is_within (hr.mono (by decide : 2 ≤ 2)) hgd (by exact (da_cons (dv 3) (da_cons de_int (da_cons (dv 0) da_nil)))))) (dw_and1 (dt_val (by exact de_calN (KF := K) (Ts := Ts) C_is_within (hr.mono (by decide : 2 ≤ 2)) hgd (by exact (da_cons (dv 4) (da_cons de_int (da_cons (de_constK G.c_MOST_LATER) da_nil))))))))))) (dss_one (ds_raise (erc_of (x := "BadPair") EX G.n_BadPair (G.ek 2 (by decide))) (hr.mono (by decide : 2 ≤ 2)) rfl (da_cons (dv 1) da_nil))) dss_nil))))⟩

/-! is_possible -/
abbrev s_is_possible : Stmt := top 19
abbrev N_is_possible : List Str := ["service", "pair", "word", "most", "ahead", "behind", "later"]
theorem sc_is_possible : FnScope N_is_possible ["service", "pair"] (defScope s_is_possible) := ⟨rfl, rfl, rfl, by decide +kernel, rfl, by decide +kernel, by decide +kernel⟩
def w_is_possible (cl : Nat → Addr) (Ξ : Xp) : Ws := (wSeq (wUnp (wVar 0) (wgTup 2 (wgCons (wName 2) (wgCons (wName 3) wgNil))))
  (wSeq (wUnp (wVar 1) (wgTup 3 (wgCons (wName 4) (wgCons (wName 5) (wgCons (wName 6) wgNil)))))
  (wSeq (wIfS (wB (wBin dEq (wVar 2) (wC (.str "any")))) (wRet (wAndV (wBin dNeX (wVar 4) (wBin dAdd (wVar 6) (wVar 5))) (wOrV (wBin (dI0 fun i j => .bl (decide (j < i))) (wVar 6) (wC (.int 0))) (wBin (dI0 fun i j => .bl (decide (j < i))) (wVar 3) (wC (.int 1)))))) wNext)
  (wSeq (wIfS (wB (wBin (dI0 fun i j => .bl (decide (j ≤ i))) (wVar 4) (wBin dAdd (wVar 6) (wVar 5)))) (wRet (wC (.bl false))) wNext)
  (wSeq (wIfS (wB (wBin dEq (wVar 2) (wC (.str "order")))) (wRet (wOrV (wBin (dI0 fun i j => .bl (decide (j < i))) (wVar 6) (wC (.int 0))) (wBin (dI0 fun i j => .bl (decide (j < i))) (wVar 3) (wC (.int 1))))) wNext)
  (wRet (wAndV (wBin (dI0 fun i j => .bl (decide (i ≤ j))) (wBin (dI0 fun i j => .int (i - j)) (wVar 5) (wVar 4)) (wBin (dI CMulX fun i j => .int (i * j)) (wBin dAdd (wVar 6) (wC (.int 1))) (wBin (dI0 fun i j => .int (i - j)) (wVar 3) (wC (.int 1))))) (wOrV (wBin (dI0 fun i j => .bl (decide (j < i))) (wVar 3) (wC (.int 1))) (wBin dEq (wVar 4) (wC (.int 0)))))))))))
def F_is_possible (cl : Nat → Addr) : Fd := mkF (pin [0, 1]) 7 (w_is_possible cl)
theorem cal_is_possible {P : Program} {w : World} {K : PySem.W.Frag} {Ts : List (Addr × Str)} {mg : Str → Option Value} {base : Heap} {cl : Nat → Addr} {fI : Addr} (G : Gx K mg cl fI) (EX : Exx P w K mg base fI) (D : Dfn K mg "is_possible" s_is_possible none)  : CalS P w K Ts mg base 1 "is_possible" s_is_possible ["service", "pair"] (F_is_possible cl) :=
  cal_of D sc_is_possible fun f cdv hcd A outer s H E B G0 Ξ lk hr hgd => ⟨_, (dss_cons (ds_unp (dv 0) (dg_tup rfl (dgs_cons (dg_name rfl sc_is_possible.nd rfl (by first | exact Or.inl rfl | exact Or.inr rfl)) (dgs_cons (dg_name rfl sc_is_possible.nd rfl (by first | exact Or.inl rfl | exact Or.inr rfl)) dgs_nil))))
      (dss_cons (ds_unp (dv 1) (dg_tup rfl (dgs_cons (dg_name rfl sc_is_possible.nd rfl (by first | exact Or.inl rfl | exact Or.inr rfl)) (dgs_cons (dg_name rfl sc_is_possible.nd rfl (by first | exact Or.inl rfl | exact Or.inr rfl)) (dgs_cons (dg_name rfl sc_is_possible.nd rfl (by first | exact Or.inl rfl | exact Or.inr rfl)) dgs_nil)))))
      (dss_cons (ds_if (dt_cmp (dc_eq hr.units) (dv 2) de_str) (dss_one (ds_ret (de_and (de_cmp (dc_neX hr.units) (dv 4) (de_add (dv 6) (dv 5))) (de_one (de_or (de_cmp dc_gt (dv 6) de_int) (de_one (de_cmp dc_gt (dv 3) de_int))))))) dss_nil)
      (dss_cons (ds_if (dt_cmp dc_ge (dv 4) (de_add (dv 6) (dv 5))) (dss_one (ds_ret de_bl)) dss_nil)
      (dss_cons (ds_if (dt_cmp (dc_eq hr.units) (dv 2) de_str) (dss_one (ds_ret (de_or (de_cmp dc_gt (dv 6) de_int) (de_one (de_cmp dc_gt (dv 3) de_int))))) dss_nil)
      (dss_one (ds_ret (de_and (de_cmp dc_le (de_sub (dv 5) (dv 4)) (de_mul (de_add (dv 6) de_int) (de_sub (dv 3) de_int))) (de_one (de_or (de_cmp dc_gt (dv 3) de_int) (de_one (de_cmp (dc_eq hr.units) (dv 4) de_int))))))))))))⟩

/-! can_be -/
abbrev s_can_be : Stmt := top 20
abbrev N_can_be : List Str := ["service", "size", "pair"]
theorem sc_can_be : FnScope N_can_be ["service", "size", "pair"] (defScope s_can_be) := ⟨rfl, rfl, rfl, by decide +kernel, rfl, by decide +kernel, by decide +kernel⟩
def w_can_be (cl : Nat → Addr) (Ξ : Xp) : Ws := (wSeq (wDrop (wCall 1 (F_check_service cl) Ξ (wCons (wVar 0) wNil)))
  (wSeq (wDrop (wCall 1 (F_check_size cl) Ξ (wCons (wVar 1) wNil)))
  (wSeq (wDrop (wCall 2 (F_check_pair cl) Ξ (wCons (wVar 1) (wCons (wVar 2) wNil))))
  (wRet (wCall 2 (F_is_possible cl) noX (wCons (wVar 0) (wCons (wVar 2) wNil)))))))
def F_can_be (cl : Nat → Addr) : Fd := mkF (pin [0, 1, 2]) 3 (w_can_be cl)
theorem cal_can_be {P : Program} {w : World} {K : PySem.W.Frag} {Ts : List (Addr × Str)} {mg : Str → Option Value} {base : Heap} {cl : Nat → Addr} {fI : Addr} (G : Gx K mg cl fI) (EX : Exx P w K mg base fI) (D : Dfn K mg "can_be" s_can_be none) (C_check_pair : Cal P w K Ts mg base 3 "check_pair" ["size", "pair"] (F_check_pair cl)) (C_check_service : Cal P w K Ts mg base 4 "check_service" ["service"] (F_check_service cl)) (C_check_size : Cal P w K Ts mg base 3 "check_size" ["size"] (F_check_size cl)) (C_is_possible : Cal P w K Ts mg base 1 "is_possible" ["service", "pair"] (F_is_possible cl)) : CalS P w K Ts mg base 5 "can_be" s_can_be ["service", "size", "pair"] (F_can_be cl) :=
  cal_of D sc_can_be fun f cdv hcd A outer s H E B G0 Ξ lk hr hgd => ⟨_, (dss_cons (ds_expr (by exact de_calW (KF := K) (Ts := Ts) (W := fun cls d _ H' => E cls d H') (Ξ := Ξ) C_check_service (hr.mono (by decide : 4 ≤ 4)) hgd (by exact (da_cons (dv 0) da_nil))))
      (dss_cons (ds_expr (by exact de_calW (KF := K) (Ts := Ts) (W := fun cls d _ H' => E cls d H') (Ξ := Ξ) C_check_size (hr.mono (by decide : 3 ≤ 4)) hgd (by exact (da_cons (dv 1) da_nil))))
      (dss_cons (ds_expr (by exact de_calW (KF := K) (Ts := Ts) (W := fun cls d _ H' => E cls d H') (Ξ := Ξ) C_check_pair (hr.mono (by decide : 3 ≤ 4)) hgd (by exact (da_cons (dv 1) (da_cons (dv 2) da_nil)))))
      (dss_one (ds_ret (by exact de_calN (KF := K) (Ts := Ts) C_is_possible (hr.mono (by decide : 1 ≤ 4)) hgd (by exact (da_cons (dv 0) (da_cons (dv 2) da_nil)))))))))⟩

/-! waits_first -/
abbrev s_waits_first : Stmt := top 21
abbrev N_waits_first : List Str := ["most", "pair", "ahead", "behind", "later"]
theorem sc_waits_first : FnScope N_waits_first ["most", "pair"] (defScope s_waits_first) := ⟨rfl, rfl, rfl, by decide +kernel, rfl, by decide +kernel, by decide +kernel⟩
def w_waits_first (cl : Nat → Addr) (Ξ : Xp) : Ws := (wSeq (wUnp (wVar 1) (wgTup 3 (wgCons (wName 2) (wgCons (wName 3) (wgCons (wName 4) wgNil)))))
  (wRet (wCB dMax3 (wCons (wC (.int 0)) (wCons (wBin (dI0 fun i j => .int (i - j)) (wVar 2) (wBin (dI0 fun i j => .int (i - j)) (wVar 0) (wC (.int 1)))) (wCons (wBin (dI0 fun i j => .int (i - j)) (wVar 3) (wBin (dI CMulX fun i j => .int (i * j)) (wBin dAdd (wVar 4) (wC (.int 1))) (wBin (dI0 fun i j => .int (i - j)) (wVar 0) (wC (.int 1))))) wNil))))))
def F_waits_first (cl : Nat → Addr) : Fd := mkF (pin [0, 1]) 5 (w_waits_first cl)
theorem cal_waits_first {P : Program} {w : World} {K : PySem.W.Frag} {Ts : List (Addr × Str)} {mg : Str → Option Value} {base : Heap} {cl : Nat → Addr} {fI : Addr} (G : Gx K mg cl fI) (EX : Exx P w K mg base fI) (D : Dfn K mg "waits_first" s_waits_first none)  : CalS P w K Ts mg base 1 "waits_first" s_waits_first ["most", "pair"] (F_waits_first cl) :=
  cal_of D sc_waits_first fun f cdv hcd A outer s H E B G0 Ξ lk hr hgd => ⟨_, (dss_cons (ds_unp (dv 1) (dg_tup rfl (dgs_cons (dg_name rfl sc_waits_first.nd rfl (by first | exact Or.inl rfl | exact Or.inr rfl)) (dgs_cons (dg_name rfl sc_waits_first.nd rfl (by first | exact Or.inl rfl | exact Or.inr rfl)) (dgs_cons (dg_name rfl sc_waits_first.nd rfl (by first | exact Or.inl rfl | exact Or.inr rfl)) dgs_nil)))))
      (dss_one (ds_ret (de_callB (db_max3 rfl) G.b_max (by decide +kernel) (da_cons de_int (da_cons (de_sub (dv 2) (de_sub (dv 0) de_int)) (da_cons (de_sub (dv 3) (de_mul (de_add (dv 4) de_int) (de_sub (dv 0) de_int))) da_nil)))))))⟩

/-! slots_first -/
abbrev s_slots_first : Stmt := top 22
abbrev N_slots_first : List Str := ["service", "pair", "word", "most"]
theorem sc_slots_first : FnScope N_slots_first ["service", "pair"] (defScope s_slots_first) := ⟨rfl, rfl, rfl, by decide +kernel, rfl, by decide +kernel, by decide +kernel⟩
def w_slots_first (cl : Nat → Addr) (Ξ : Xp) : Ws := (wSeq (wUnp (wVar 0) (wgTup 2 (wgCons (wName 2) (wgCons (wName 3) wgNil))))
  (wSeq (wIfS (wOr (wB (wBin dNeX (wVar 2) (wC (.str "queue")))) (wB (wBin dEq (wVar 3) (wC (.int 1))))) (wRet (wC (.int 0))) wNext)
  (wRet (wBin (dI CDivW fun i j => .int (i / j)) (wBin (dI0 fun i j => .int (i - j)) (wBin dAdd (wCall 2 (F_waits_first cl) noX (wCons (wVar 3) (wCons (wVar 1) wNil))) (wVar 3)) (wC (.int 2))) (wBin (dI0 fun i j => .int (i - j)) (wVar 3) (wC (.int 1)))))))
def F_slots_first (cl : Nat → Addr) : Fd := mkF (pin [0, 1]) 4 (w_slots_first cl)
theorem cal_slots_first {P : Program} {w : World} {K : PySem.W.Frag} {Ts : List (Addr × Str)} {mg : Str → Option Value} {base : Heap} {cl : Nat → Addr} {fI : Addr} (G : Gx K mg cl fI) (EX : Exx P w K mg base fI) (D : Dfn K mg "slots_first" s_slots_first none) (C_waits_first : Cal P w K Ts mg base 1 "waits_first" ["most", "pair"] (F_waits_first cl)) : CalS P w K Ts mg base 2 "slots_first" s_slots_first ["service", "pair"] (F_slots_first cl) :=
  cal_of D sc_slots_first fun f cdv hcd A outer s H E B G0 Ξ lk hr hgd => ⟨_, (dss_cons (ds_unp (dv 0) (dg_tup rfl (dgs_cons (dg_name rfl sc_slots_first.nd rfl (by first | exact Or.inl rfl | exact Or.inr rfl)) (dgs_cons (dg_name rfl sc_slots_first.nd rfl (by first | exact Or.inl rfl | exact Or.inr rfl)) dgs_nil))))
      (dss_cons (ds_if (DW.dt (dw_or (dt_cmp (dc_neX hr.units) (dv 2) de_str) (dw_or1 (dt_cmp (dc_eq hr.units) (dv 3) de_int)))) (dss_one (ds_ret de_int)) dss_nil)
      (dss_one (ds_ret (de_fdiv (de_sub (de_add (by exact de_calN (KF := K) (Ts := Ts) C_waits_first (hr.mono (by decide : 1 ≤ 1)) hgd (by exact (da_cons (dv 3) (da_cons (dv 1) da_nil)))) (dv 3)) de_int) (de_sub (dv 3) de_int))))))⟩

/-! queue_waits -/
abbrev s_queue_waits : Stmt := top 23
abbrev N_queue_waits : List Str := ["service", "pair", "most", "first", "slots", "waits", "slot", "ahead", "behind", "later"]
theorem sc_queue_waits : FnScope N_queue_waits ["service", "pair"] (defScope s_queue_waits) := ⟨rfl, rfl, rfl, by decide +kernel, rfl, by decide +kernel, by decide +kernel⟩
def w_queue_waits (cl : Nat → Addr) (Ξ : Xp) : Ws := (wSeq (wSetF 2 (wBin dIx (wVar 0) (wC (.int 1))))
  (wSeq (wUnp (wVar 1) (wgTup 3 (wgCons (wName 7) (wgCons (wName 8) (wgCons (wName 9) wgNil)))))
  (wSeq (wSetF 3 (wCall 2 (F_slots_first cl) noX (wCons (wVar 0) (wCons (wVar 1) wNil))))
  (wSeq (wSetF 4 (wBin dAdd (wBin dAdd (wVar 3) (wVar 9)) (wC (.int 1))))
  (wSeq (wSet 5 (wLc [6] (wRng1 (wCons (wBin dAdd (wVar 3) (wC (.int 1))) wNil)) (wName 6) wYes (wCB dMax2 (wCons (wC (.int 0)) (wCons (wBin (dI0 fun i j => .int (i - j)) (wCall 2 (F_waits_first cl) noX (wCons (wVar 2) (wCons (wVar 1) wNil))) (wBin (dI CMulX fun i j => .int (i * j)) (wBin (dI0 fun i j => .int (i - j)) (wVar 3) (wVar 6)) (wBin (dI0 fun i j => .int (i - j)) (wVar 2) (wC (.int 1))))) wNil)))))
  (wSeq (wFor (wRng2 (wCons (wBin dAdd (wVar 3) (wC (.int 1))) (wCons (wBin dAdd (wVar 4) (wC (.int 1))) wNil))) (wName 6) (wDrop (wAppend 5 (wCons (wCB dMax3 (wCons (wC (.int 0)) (wCons (wBin (dI0 fun i j => .int (i - j)) (wVar 7) (wBin (dI0 fun i j => .int (i - j)) (wBin (dI0 fun i j => .int (i - j)) (wVar 6) (wVar 3)) (wC (.int 1)))) (wCons (wBin (dI0 fun i j => .int (i - j)) (wVar 8) (wBin (dI CMulX fun i j => .int (i * j)) (wBin (dI0 fun i j => .int (i - j)) (wVar 4) (wVar 6)) (wBin (dI0 fun i j => .int (i - j)) (wVar 2) (wC (.int 1))))) wNil)))) wNil))))
  (wRet (wVar 5))))))))
def F_queue_waits (cl : Nat → Addr) : Fd := mkF (pin [0, 1]) 10 (w_queue_waits cl)
theorem cal_queue_waits {P : Program} {w : World} {K : PySem.W.Frag} {Ts : List (Addr × Str)} {mg : Str → Option Value} {base : Heap} {cl : Nat → Addr} {fI : Addr} (G : Gx K mg cl fI) (EX : Exx P w K mg base fI) (D : Dfn K mg "queue_waits" s_queue_waits none) (C_slots_first : Cal P w K Ts mg base 2 "slots_first" ["service", "pair"] (F_slots_first cl)) (C_waits_first : Cal P w K Ts mg base 1 "waits_first" ["most", "pair"] (F_waits_first cl)) : CalS P w K Ts mg base 3 "queue_waits" s_queue_waits ["service", "pair"] (F_queue_waits cl) :=
  cal_of D sc_queue_waits fun f cdv hcd A outer s H E B G0 Ξ lk hr hgd => ⟨_, (dss_cons (ds_setF rfl sc_queue_waits.nd rfl (by first | exact Or.inl rfl | exact Or.inr rfl) (de_ix (dv 0) de_int))
      (dss_cons (ds_unp (dv 1) (dg_tup rfl (dgs_cons (dg_name rfl sc_queue_waits.nd rfl (by first | exact Or.inl rfl | exact Or.inr rfl)) (dgs_cons (dg_name rfl sc_queue_waits.nd rfl (by first | exact Or.inl rfl | exact Or.inr rfl)) (dgs_cons (dg_name rfl sc_queue_waits.nd rfl (by first | exact Or.inl rfl | exact Or.inr rfl)) dgs_nil)))))
      (dss_cons (ds_setF rfl sc_queue_waits.nd rfl (by first | exact Or.inl rfl | exact Or.inr rfl) (by exact de_calN (KF := K) (Ts := Ts) C_slots_first (hr.mono (by decide : 2 ≤ 2)) hgd (by exact (da_cons (dv 0) (da_cons (dv 1) da_nil)))))
      (dss_cons (ds_setF rfl sc_queue_waits.nd rfl (by first | exact Or.inl rfl | exact Or.inr rfl) (de_add (de_add (dv 3) (dv 9)) de_int))
      (dss_cons (ds_setLc (own := [("slot", 6)]) rfl (by rfl) sc_queue_waits.nd rfl rfl (by rfl) (by decide) (di_rng1 rfl G.b_range (da_cons (de_add (dv 3) de_int) da_nil)) (blkOk_by (N := N_queue_waits) (sc := defScope s_queue_waits) (by decide +kernel)) (fun _ _ _ _ _ => (dg_name rfl sc_queue_waits.nd rfl (by first | exact Or.inl rfl | exact Or.inr rfl))) (go_name (i := 6) (by decide)) (fun _ _ _ _ _ => pts_nil) wt_yes (fun _ _ _ _ _ => (de_callB (db_max2 rfl) G.b_max (by decide +kernel) (da_cons de_int (da_cons (de_sub (by exact de_calN (KF := K) (Ts := Ts) C_waits_first (hr.mono (by decide : 1 ≤ 2)) hgd (by exact (da_cons (dv 2) (da_cons (dv 1) da_nil)))) (de_mul (de_sub (dv 3) (dv 6)) (de_sub (dv 2) de_int))) da_nil)))))
      (dss_cons (ds_for PassesOwn.leaving rfl (di_rng2 rfl G.b_range (da_cons (de_add (dv 3) de_int) (da_cons (de_add (dv 4) de_int) da_nil))) (dg_name rfl sc_queue_waits.nd rfl (by first | exact Or.inl rfl | exact Or.inr rfl)) (dss_one (ds_expr (de_append (dv 5) (da_cons (de_callB (db_max3 rfl) G.b_max (by decide +kernel) (da_cons de_int (da_cons (de_sub (dv 7) (de_sub (de_sub (dv 6) (dv 3)) de_int)) (da_cons (de_sub (dv 8) (de_mul (de_sub (dv 4) (dv 6)) (de_sub (dv 2) de_int))) da_nil)))) da_nil)))))
      (dss_one (ds_ret (dv 5)))))))))⟩

/-! queue_script -/
abbrev s_queue_script : Stmt := top 24
abbrev N_queue_script : List Str := ["service", "pair", "first", "waits", "counts", "one", "other", "ahead", "behind", "later", "slot"]
theorem sc_queue_script : FnScope N_queue_script ["service", "pair"] (defScope s_queue_script) := ⟨rfl, rfl, rfl, by decide +kernel, rfl, by decide +kernel, by decide +kernel⟩
def w_queue_script (cl : Nat → Addr) (Ξ : Xp) : Ws := (wSeq (wUnp (wVar 1) (wgTup 3 (wgCons (wName 7) (wgCons (wName 8) (wgCons (wName 9) wgNil)))))
  (wSeq (wSetF 2 (wCall 2 (F_slots_first cl) noX (wCons (wVar 0) (wCons (wVar 1) wNil))))
  (wSeq (wSetF 3 (wCall 2 (F_queue_waits cl) noX (wCons (wVar 0) (wCons (wVar 1) wNil))))
  (wSeq (wSetF 4 (wLc [10] (wRng1 (wCons (wBin (dI0 fun i j => .int (i - j)) (wCB dLen (wCons (wVar 3) wNil)) (wC (.int 1))) wNil)) (wName 10) wYes (wBin dAdd (wBin (dI0 fun i j => .int (i - j)) (wBin dIx (wVar 3) (wBin dAdd (wVar 10) (wC (.int 1)))) (wBin dIx (wVar 3) (wVar 10))) (wC (.int 1)))))
  (wSeq (wSetF 5 (wBin (dI0 fun i j => .int (i - j)) (wBin dAdd (wCB dSumX (wCons (wSl (wVar 4) wNoPart (wPart (wVar 2))) wNil)) (wVar 7)) (wBin dIx (wVar 3) (wVar 2))))
  (wSeq (wSetF 6 (wBin (dI0 fun i j => .int (i - j)) (wBin dAdd (wCB dSumX (wCons (wSl (wVar 4) wNoPart (wPart (wBin dAdd (wVar 2) (wVar 9)))) wNil)) (wVar 8)) (wBin dIx (wVar 3) (wBin dAdd (wVar 2) (wVar 9)))))
  (wRet (wTup (wCons (wCB dTuple (wCons (wVar 4) wNil)) (wCons (wVar 5) (wCons (wVar 6) wNil)))))))))))
def F_queue_script (cl : Nat → Addr) : Fd := mkF (pin [0, 1]) 11 (w_queue_script cl)
theorem cal_queue_script {P : Program} {w : World} {K : PySem.W.Frag} {Ts : List (Addr × Str)} {mg : Str → Option Value} {base : Heap} {cl : Nat → Addr} {fI : Addr} (G : Gx K mg cl fI) (EX : Exx P w K mg base fI) (D : Dfn K mg "queue_script" s_queue_script none) (C_queue_waits : Cal P w K Ts mg base 3 "queue_waits" ["service", "pair"] (F_queue_waits cl)) (C_slots_first : Cal P w K Ts mg base 2 "slots_first" ["service", "pair"] (F_slots_first cl)) : CalS P w K Ts mg base 4 "queue_script" s_queue_script ["service", "pair"] (F_queue_script cl) :=
  cal_of D sc_queue_script fun f cdv hcd A outer s H E B G0 Ξ lk hr hgd => ⟨_, (dss_cons (ds_unp (dv 1) (dg_tup rfl (dgs_cons (dg_name rfl sc_queue_script.nd rfl (by first | exact Or.inl rfl | exact Or.inr rfl)) (dgs_cons (dg_name rfl sc_queue_script.nd rfl (by first | exact Or.inl rfl | exact Or.inr rfl)) (dgs_cons (dg_name rfl sc_queue_script.nd rfl (by first | exact Or.inl rfl | exact Or.inr rfl)) dgs_nil)))))
      (dss_cons (ds_setF rfl sc_queue_script.nd rfl (by first | exact Or.inl rfl | exact Or.inr rfl) (by exact de_calN (KF := K) (Ts := Ts) C_slots_first (hr.mono (by decide : 2 ≤ 3)) hgd (by exact (da_cons (dv 0) (da_cons (dv 1) da_nil)))))
      (dss_cons (ds_setF rfl sc_queue_script.nd rfl (by first | exact Or.inl rfl | exact Or.inr rfl) (by exact de_calN (KF := K) (Ts := Ts) C_queue_waits (hr.mono (by decide : 3 ≤ 3)) hgd (by exact (da_cons (dv 0) (da_cons (dv 1) da_nil)))))
      (dss_cons (ds_setLcF (own := [("slot", 10)]) rfl (by rfl) sc_queue_script.nd rfl rfl (by rfl) (by decide) (di_rng1 rfl G.b_range (da_cons (de_sub (de_callB db_len G.b_len (by decide +kernel) (da_cons (dv 3) da_nil)) de_int) da_nil)) (blkOk_by (N := N_queue_script) (sc := defScope s_queue_script) (by decide +kernel)) (fun _ _ _ _ _ => (dg_name rfl sc_queue_script.nd rfl (by first | exact Or.inl rfl | exact Or.inr rfl))) (go_name (i := 10) (by decide)) (fun _ _ _ _ _ => pts_nil) wt_yes (fun _ _ _ _ _ => (de_addK (KF := K) (de_sub (de_ixK (KF := K) (dv 3) (de_addK (KF := K) (dv 10) de_int)) (de_ixK (KF := K) (dv 3) (dv 10))) de_int)))
      (dss_cons (ds_setF rfl sc_queue_script.nd rfl (by first | exact Or.inl rfl | exact Or.inr rfl) (de_sub (de_add (de_callB (db_sumX rfl) G.b_sum (by decide +kernel) (da_cons (de_sl (dv 4) do_none (do_some (dv 2))) da_nil)) (dv 7)) (de_ix (dv 3) (dv 2))))
      (dss_cons (ds_setF rfl sc_queue_script.nd rfl (by first | exact Or.inl rfl | exact Or.inr rfl) (de_sub (de_add (de_callB (db_sumX rfl) G.b_sum (by decide +kernel) (da_cons (de_sl (dv 4) do_none (do_some (de_add (dv 2) (dv 9)))) da_nil)) (dv 8)) (de_ix (dv 3) (de_add (dv 2) (dv 9)))))
      (dss_one (ds_ret (de_tup (da_cons (de_callT db_tuple G.b_tuple (by decide +kernel) (da_cons (dv 4) da_nil)) (da_cons (dv 5) (da_cons (dv 6) da_nil))))))))))))⟩

/-! pair_script -/
abbrev s_pair_script : Stmt := top 25
abbrev N_pair_script : List Str := ["service", "size", "pair", "ahead", "behind", "later"]
theorem sc_pair_script : FnScope N_pair_script ["service", "size", "pair"] (defScope s_pair_script) := ⟨rfl, rfl, rfl, by decide +kernel, rfl, by decide +kernel, by decide +kernel⟩
def w_pair_script (cl : Nat → Addr) (Ξ : Xp) : Ws := (wSeq (wIfS (wNot (wB (wCall 3 (F_can_be cl) Ξ (wCons (wVar 0) (wCons (wVar 1) (wCons (wVar 2) wNil)))))) (wRaise (cl 3) Ξ (wCons (wVar 2) wNil)) wNext)
  (wSeq (wIfS (wB (wBin dEq (wBin dIx (wVar 0) (wC (.int 0))) (wC (.str "queue")))) (wRet (wCall 2 (F_queue_script cl) noX (wCons (wVar 0) (wCons (wVar 2) wNil)))) wNext)
  (wSeq (wUnp (wVar 2) (wgTup 3 (wgCons (wName 3) (wgCons (wName 4) (wgCons (wName 5) wgNil)))))
  (wSeq (wIfS (wB (wBin dEq (wVar 5) (wC (.int 0)))) (wRet (wTup (wCons (wTup (wCons (wTup (wCons (wVar 3) (wCons (wVar 4) wNil))) wNil)) (wCons (wC (.int 0)) (wCons (wC (.int 1)) wNil))))) wNext)
  (wRet (wTup (wCons (wBin dAdd (wBin dAdd (wTup (wCons (wTup (wCons (wVar 3) wNil)) wNil)) (wBin dTm (wTup (wCons (wTup wNil) wNil)) (wBin (dI0 fun i j => .int (i - j)) (wVar 5) (wC (.int 1))))) (wTup (wCons (wTup (wCons (wVar 4) wNil)) wNil))) (wCons (wC (.int 0)) (wCons (wC (.int 1)) wNil)))))))))
def F_pair_script (cl : Nat → Addr) : Fd := mkF (pin [0, 1, 2]) 6 (w_pair_script cl)
theorem cal_pair_script {P : Program} {w : World} {K : PySem.W.Frag} {Ts : List (Addr × Str)} {mg : Str → Option Value} {base : Heap} {cl : Nat → Addr} {fI : Addr} (G : Gx K mg cl fI) (EX : Exx P w K mg base fI) (D : Dfn K mg "pair_script" s_pair_script none) (C_can_be : Cal P w K Ts mg base 5 "can_be" ["service", "size", "pair"] (F_can_be cl)) (C_queue_script : Cal P w K Ts mg base 4 "queue_script" ["service", "pair"] (F_queue_script cl)) : CalS P w K Ts mg base 6 "pair_script" s_pair_script ["service", "size", "pair"] (F_pair_script cl) :=
  cal_of D sc_pair_script fun f cdv hcd A outer s H E B G0 Ξ lk hr hgd => ⟨_, (dss_cons (ds_if (dt_not (dt_val (by exact de_calW (KF := K) (Ts := Ts) (W := fun cls d _ H' => E cls d H') (Ξ := Ξ) C_can_be (hr.mono (by decide : 5 ≤ 5)) hgd (by exact (da_cons (dv 0) (da_cons (dv 1) (da_cons (dv 2) da_nil))))))) (dss_one (ds_raise (erc_of (x := "NoPair") EX G.n_NoPair (G.ek 3 (by decide))) (hr.mono (by decide : 2 ≤ 5)) rfl (da_cons (dv 2) da_nil))) dss_nil)
      (dss_cons (ds_if (dt_cmp (dc_eq hr.units) (de_ix (dv 0) de_int) de_str) (dss_one (ds_ret (by exact de_calN (KF := K) (Ts := Ts) C_queue_script (hr.mono (by decide : 4 ≤ 5)) hgd (by exact (da_cons (dv 0) (da_cons (dv 2) da_nil)))))) dss_nil)
      (dss_cons (ds_unp (dv 2) (dg_tup rfl (dgs_cons (dg_name rfl sc_pair_script.nd rfl (by first | exact Or.inl rfl | exact Or.inr rfl)) (dgs_cons (dg_name rfl sc_pair_script.nd rfl (by first | exact Or.inl rfl | exact Or.inr rfl)) (dgs_cons (dg_name rfl sc_pair_script.nd rfl (by first | exact Or.inl rfl | exact Or.inr rfl)) dgs_nil)))))
      (dss_cons (ds_if (dt_cmp (dc_eq hr.units) (dv 5) de_int) (dss_one (ds_ret (de_tup (da_cons (de_tup (da_cons (de_tup (da_cons (dv 3) (da_cons (dv 4) da_nil))) da_nil)) (da_cons de_int (da_cons de_int da_nil)))))) dss_nil)
      (dss_one (ds_ret (de_tup (da_cons (de_add (de_add (de_tup (da_cons (de_tup (da_cons (dv 3) da_nil)) da_nil)) (de_tm (de_tup (da_cons (de_tup da_nil) da_nil)) (de_sub (dv 5) de_int))) (de_tup (da_cons (de_tup (da_cons (dv 4) da_nil)) da_nil))) (da_cons de_int (da_cons de_int da_nil))))))))))⟩

/-! _law_fewest_slots -/
abbrev s__law_fewest_slots : Stmt := top 39
abbrev N__law_fewest_slots : List Str := ["service", "pair", "place", "ahead", "x", "y", "d", "word", "n"]
theorem sc__law_fewest_slots : FnScope N__law_fewest_slots ["service", "pair"] (defScope s__law_fewest_slots) := ⟨rfl, rfl, rfl, by decide +kernel, rfl, by decide +kernel, by decide +kernel⟩
def w__law_fewest_slots (cl : Nat → Addr) (Ξ : Xp) : Ws := (wSeq (wUnp (wVar 1) (wgTup 3 (wgCons (wName 4) (wgCons (wName 5) (wgCons (wName 6) wgNil)))))
  (wSeq (wUnp (wVar 0) (wgTup 2 (wgCons (wName 7) (wgCons (wName 8) wgNil))))
  (wSeq (wIfS (wOr (wB (wBin dNeX (wVar 7) (wC (.str "queue")))) (wOr (wAnd (wB (wBin dEq (wVar 4) (wC (.int 0)))) (wB (wBin dEq (wBin dAdd (wVar 6) (wVar 5)) (wC (.int 0))))) (wB (wBin dEq (wVar 8) (wC (.int 1)))))) (wRet (wCB dInt (wCons (wBin dAdd (wVar 6) (wC (.int 1))) wNil))) wNext)
  (wSeq (wSetF 2 (wCB dMin3 (wCons (wVar 8) (wCons (wBin (dI0 fun i j => .int (i - j)) (wBin dAdd (wBin (dI CMulX fun i j => .int (i * j)) (wVar 8) (wVar 6)) (wVar 8)) (wBin (dI0 fun i j => .int (i - j)) (wBin dAdd (wVar 6) (wVar 5)) (wVar 4))) (wCons (wBin dAdd (wVar 4) (wC (.int 1))) wNil)))))
  (wSeq (wSetF 3 (wBin (dI0 fun i j => .int (i - j)) (wVar 4) (wBin (dI0 fun i j => .int (i - j)) (wVar 2) (wC (.int 1)))))
  (wRet (wCB dInt (wCons (wBin dAdd (wBin dAdd (wBin (dI CDivW fun i j => .int (i / j)) (wBin (dI0 fun i j => .int (i - j)) (wBin dAdd (wVar 3) (wVar 8)) (wC (.int 2))) (wBin (dI0 fun i j => .int (i - j)) (wVar 8) (wC (.int 1)))) (wVar 6)) (wC (.int 1))) wNil))))))))
def F__law_fewest_slots (cl : Nat → Addr) : Fd := mkF (pin [0, 1]) 9 (w__law_fewest_slots cl)
theorem cal__law_fewest_slots {P : Program} {w : World} {K : PySem.W.Frag} {Ts : List (Addr × Str)} {mg : Str → Option Value} {base : Heap} {cl : Nat → Addr} {fI : Addr} (G : Gx K mg cl fI) (EX : Exx P w K mg base fI) (D : Dfn K mg "_law_fewest_slots" s__law_fewest_slots none)  : CalS P w K Ts mg base 1 "_law_fewest_slots" s__law_fewest_slots ["service", "pair"] (F__law_fewest_slots cl) :=
  cal_of D sc__law_fewest_slots fun f cdv hcd A outer s H E B G0 Ξ lk hr hgd => ⟨_, (dss_cons (ds_unp (dv 1) (dg_tup rfl (dgs_cons (dg_name rfl sc__law_fewest_slots.nd rfl (by first | exact Or.inl rfl | exact Or.inr rfl)) (dgs_cons (dg_name rfl sc__law_fewest_slots.nd rfl (by first | exact Or.inl rfl | exact Or.inr rfl)) (dgs_cons (dg_name rfl sc__law_fewest_slots.nd rfl (by first | exact Or.inl rfl | exact Or.inr rfl)) dgs_nil)))))
      (dss_cons (ds_unp (dv 0) (dg_tup rfl (dgs_cons (dg_name rfl sc__law_fewest_slots.nd rfl (by first | exact Or.inl rfl | exact Or.inr rfl)) (dgs_cons (dg_name rfl sc__law_fewest_slots.nd rfl (by first | exact Or.inl rfl | exact Or.inr rfl)) dgs_nil))))
      (dss_cons (ds_if (DW.dt (dw_or (dt_cmp (dc_neX hr.units) (dv 7) de_str) (dw_or (DW.dt (dw_and (dt_cmp (dc_eq hr.units) (dv 4) de_int) (dw_and1 (dt_cmp (dc_eq hr.units) (de_add (dv 6) (dv 5)) de_int)))) (dw_or1 (dt_cmp (dc_eq hr.units) (dv 8) de_int))))) (dss_one (ds_ret (de_callT db_int G.b_int (by decide +kernel) (da_cons (de_add (dv 6) de_int) da_nil)))) dss_nil)
      (dss_cons (ds_setF rfl sc__law_fewest_slots.nd rfl (by first | exact Or.inl rfl | exact Or.inr rfl) (de_callB (db_min3 rfl) G.b_min (by decide +kernel) (da_cons (dv 8) (da_cons (de_sub (de_add (de_mul (dv 8) (dv 6)) (dv 8)) (de_sub (de_add (dv 6) (dv 5)) (dv 4))) (da_cons (de_add (dv 4) de_int) da_nil)))))
      (dss_cons (ds_setF rfl sc__law_fewest_slots.nd rfl (by first | exact Or.inl rfl | exact Or.inr rfl) (de_sub (dv 4) (de_sub (dv 2) de_int)))
      (dss_one (ds_ret (de_callT db_int G.b_int (by decide +kernel) (da_cons (de_add (de_add (de_fdiv (de_sub (de_add (dv 3) (dv 8)) de_int) (de_sub (dv 8) de_int)) (dv 6)) de_int) da_nil)))))))))⟩

/-! _law_slot_values -/
abbrev s__law_slot_values : Stmt := top 41
abbrev N__law_slot_values : List Str := ["service", "size", "lap", "found", "rows", "later", "row", "count", "delay"]
theorem sc__law_slot_values : FnScope N__law_slot_values ["service", "size"] (defScope s__law_slot_values) := ⟨rfl, rfl, rfl, by decide +kernel, rfl, by decide +kernel, by decide +kernel⟩
def w__law_slot_values (cl : Nat → Addr) (Ξ : Xp) : Ws := (wSeq (wIfS (wB (wBin dEq (wBin dIx (wVar 0) (wC (.int 0))) (wC (.str "queue")))) (wRet (wLc [7] (wRng1 (wCons (wBin dAdd (wBin dIx (wVar 0) (wC (.int 1))) (wC (.int 1))) wNil)) (wName 7) wYes (wCB dInt (wCons (wVar 7) wNil)))) wNext)
  (wSeq (wPuts [3, 4] (wConsH (wLst (wCons (wTup wNil) wNil)) (wConsH (wLst (wCons (wTup wNil) wNil)) wNil)))
  (wSeq (wFor (wRng1 (wCons (wBin dIx (wVar 0) (wC (.int 1))) wNil)) (wName 2) (wSeq (wSet 5 (wLst wNil))
  (wSeq (wFor (wSeqI (wVar 4)) (wName 6) (wDrop (wExtend 5 (wCons (wLc [8] (wRng1 (wCons (wBin dAdd (wVar 1) (wC (.int 1))) wNil)) (wName 8) (wB (wBin (dIn true) (wVar 8) (wVar 6))) (wBin dAdd (wVar 6) (wTup (wCons (wCB dInt (wCons (wVar 8) wNil)) wNil)))) wNil))))
  (wPar 3 4 (wCons (wBin dAdd (wVar 3) (wVar 5)) (wCons (wVar 5) wNil))))))
  (wRet (wVar 3)))))
def F__law_slot_values (cl : Nat → Addr) : Fd := mkF (pin [0, 1]) 9 (w__law_slot_values cl)
theorem cal__law_slot_values {P : Program} {w : World} {K : PySem.W.Frag} {Ts : List (Addr × Str)} {mg : Str → Option Value} {base : Heap} {cl : Nat → Addr} {fI : Addr} (G : Gx K mg cl fI) (EX : Exx P w K mg base fI) (D : Dfn K mg "_law_slot_values" s__law_slot_values none)  : CalS P w K Ts mg base 1 "_law_slot_values" s__law_slot_values ["service", "size"] (F__law_slot_values cl) :=
  cal_of D sc__law_slot_values fun f cdv hcd A outer s H E B G0 Ξ lk hr hgd => ⟨_, (dss_cons (ds_if (dt_cmp (dc_eq hr.units) (de_ix (dv 0) de_int) de_str) (dss_one (ds_ret (de_lc (own := [("count", 7)]) (by rfl) sc__law_slot_values.nd (by decide) (di_rng1 rfl G.b_range (da_cons (de_add (de_ix (dv 0) de_int) de_int) da_nil)) (blkOk_by (N := N__law_slot_values) (sc := defScope s__law_slot_values) (by decide +kernel)) (fun _ _ _ _ _ => (dg_name rfl sc__law_slot_values.nd rfl (by first | exact Or.inl rfl | exact Or.inr rfl))) (go_name (i := 7) (by decide)) (fun _ _ _ _ _ => pts_nil) wt_yes (fun _ _ _ _ _ => (de_callT db_int G.b_int (by decide +kernel) (da_cons (dv 7) da_nil)))))) dss_nil)
      (dss_cons (ds_puts2 rfl rfl sc__law_slot_values.nd rfl rfl (by decide) rfl rfl (dah_cons (de_lst (da_cons (de_tup da_nil) da_nil)) (dah_cons (de_lst (da_cons (de_tup da_nil) da_nil)) dah_nil)) (by rfl))
      (dss_cons (ds_for PassesOwn.leaving rfl (di_rng1 rfl G.b_range (da_cons (de_ix (dv 0) de_int) da_nil)) (dg_name rfl sc__law_slot_values.nd rfl (by first | exact Or.inl rfl | exact Or.inr rfl)) (dss_cons (ds_set rfl sc__law_slot_values.nd rfl (by first | exact Or.inl rfl | exact Or.inr rfl) (de_lst da_nil))
      (dss_cons (ds_for PassesOwn.leaving rfl (di_seq (dv 4)) (dg_name rfl sc__law_slot_values.nd rfl (by first | exact Or.inl rfl | exact Or.inr rfl)) (dss_one (ds_expr (de_extend (dv 5) (da_cons (de_lcIf (own := [("delay", 8)]) (by rfl) sc__law_slot_values.nd (by decide) (di_rng1 rfl G.b_range (da_cons (de_add (dv 1) de_int) da_nil)) (blkOk_by (N := N__law_slot_values) (sc := defScope s__law_slot_values) (by decide +kernel)) (fun _ _ _ _ _ => (dg_name rfl sc__law_slot_values.nd rfl (by first | exact Or.inl rfl | exact Or.inr rfl))) (go_name (i := 8) (by decide)) (fun _ _ _ _ _ => (dt_cmp (dc_notInK (KF := K)) (dv 8) (dv 6))) (fun _ _ _ _ _ => (de_addK (KF := K) (dv 6) (de_tup (da_cons (de_callT db_int G.b_int (by decide +kernel) (da_cons (dv 8) da_nil)) da_nil))))) da_nil)))))
      (dss_one (ds_par rfl rfl rfl sc__law_slot_values.nd rfl rfl (by decide) rfl rfl (da_cons (de_add (dv 3) (dv 5)) (da_cons (dv 5) da_nil)) (by rfl))))))
      (dss_one (ds_ret (dv 3))))))⟩

/-! _law_pairs_in -/
abbrev s__law_pairs_in : Stmt := top 43
abbrev N__law_pairs_in : List Str := ["packets", "found", "at", "slot", "delay", "later", "other"]
theorem sc__law_pairs_in : FnScope N__law_pairs_in ["packets"] (defScope s__law_pairs_in) := ⟨rfl, rfl, rfl, by decide +kernel, rfl, by decide +kernel, by decide +kernel⟩
def w__law_pairs_in (cl : Nat → Addr) (Ξ : Xp) : Ws := (wSeq (wSet 1 wDnewT)
  (wSeq (wFor (wEnumX (wCons (wVar 0) wNil)) (wgTup 2 (wgCons (wName 2) (wgCons (wgTup 2 (wgCons (wName 3) (wgCons (wName 4) wgNil))) wgNil))) (wFor (wSeqI (wSl (wVar 0) (wPart (wBin dAdd (wVar 2) (wC (.int 1)))) wNoPart)) (wgTup 2 (wgCons (wName 5) (wgCons (wName 6) wgNil))) (wDPutT 1 (wCons (wCB dInt (wCons (wVar 4) wNil)) (wCons (wCB dInt (wCons (wVar 6) wNil)) (wCons (wCB dInt (wCons (wBin (dI0 fun i j => .int (i - j)) (wVar 5) (wVar 3)) wNil)) wNil))) (wC (.bl true)))))
  (wRet (wVar 1))))
def F__law_pairs_in (cl : Nat → Addr) : Fd := mkF (pin [0]) 7 (w__law_pairs_in cl)
theorem cal__law_pairs_in {P : Program} {w : World} {K : PySem.W.Frag} {Ts : List (Addr × Str)} {mg : Str → Option Value} {base : Heap} {cl : Nat → Addr} {fI : Addr} (G : Gx K mg cl fI) (EX : Exx P w K mg base fI) (D : Dfn K mg "_law_pairs_in" s__law_pairs_in none)  : CalS P w K Ts mg base 1 "_law_pairs_in" s__law_pairs_in ["packets"] (F__law_pairs_in cl) :=
  cal_of D sc__law_pairs_in fun f cdv hcd A outer s H E B G0 Ξ lk hr hgd => ⟨_, (dss_cons (ds_set rfl sc__law_pairs_in.nd rfl (by first | exact Or.inl rfl | exact Or.inr rfl) de_dnewT)
      (dss_cons (ds_for PassesOwn.leaving rfl (di_enumX G.b_enumerate (da_cons (dv 0) da_nil)) (dg_tup rfl (dgs_cons (dg_name rfl sc__law_pairs_in.nd rfl (by first | exact Or.inl rfl | exact Or.inr rfl)) (dgs_cons (dg_tup rfl (dgs_cons (dg_name rfl sc__law_pairs_in.nd rfl (by first | exact Or.inl rfl | exact Or.inr rfl)) (dgs_cons (dg_name rfl sc__law_pairs_in.nd rfl (by first | exact Or.inl rfl | exact Or.inr rfl)) dgs_nil))) dgs_nil))) (dss_one (ds_for PassesOwn.leaving rfl (di_seq (de_sl (dv 0) (do_some (de_add (dv 2) de_int)) do_none)) (dg_tup rfl (dgs_cons (dg_name rfl sc__law_pairs_in.nd rfl (by first | exact Or.inl rfl | exact Or.inr rfl)) (dgs_cons (dg_name rfl sc__law_pairs_in.nd rfl (by first | exact Or.inl rfl | exact Or.inr rfl)) dgs_nil))) (dss_one (ds_dputT (hu_of hr) de_bl (dv 1) (da_cons (de_callT db_int G.b_int (by decide +kernel) (da_cons (dv 4) da_nil)) (da_cons (de_callT db_int G.b_int (by decide +kernel) (da_cons (dv 6) da_nil)) (da_cons (de_callT db_int G.b_int (by decide +kernel) (da_cons (de_sub (dv 5) (dv 3)) da_nil)) da_nil))))))))
      (dss_one (ds_ret (dv 1)))))⟩

/-! _law_is_int -/
abbrev s__law_is_int : Stmt := top 32
abbrev N__law_is_int : List Str := ["value", "least", "most"]
theorem sc__law_is_int : FnScope N__law_is_int ["value", "least", "most"] (defScope s__law_is_int) := ⟨rfl, rfl, rfl, by decide +kernel, rfl, by decide +kernel, by decide +kernel⟩
def w__law_is_int (cl : Nat → Addr) (Ξ : Xp) : Ws := (wRet (wAndV (wIsi "int" (wVar 0)) (wAndV (wNotV (wIsi "bool" (wVar 0))) (wChain (dI0 fun i j => .bl (decide (i ≤ j))) (dI0 fun i j => .bl (decide (i ≤ j))) (wVar 1) (wVar 0) (wVar 2)))))
def F__law_is_int (cl : Nat → Addr) : Fd := mkF (pin [0, 1, 2]) 3 (w__law_is_int cl)
theorem cal__law_is_int {P : Program} {w : World} {K : PySem.W.Frag} {Ts : List (Addr × Str)} {mg : Str → Option Value} {base : Heap} {cl : Nat → Addr} {fI : Addr} (G : Gx K mg cl fI) (EX : Exx P w K mg base fI) (D : Dfn K mg "_law_is_int" s__law_is_int none)  : CalS P w K Ts mg base 1 "_law_is_int" s__law_is_int ["value", "least", "most"] (F__law_is_int cl) :=
  cal_of D sc__law_is_int fun f cdv hcd A outer s H E B G0 Ξ lk hr hgd => ⟨_, (dss_one (ds_ret (de_and (de_isi (by decide +kernel) G.b_isinstance G.b_int (by decide +kernel) (dv 0)) (de_and (de_not (de_isi (by decide +kernel) G.b_isinstance G.b_bool (by decide +kernel) (dv 0))) (de_one (de_chain dc_le dc_le (dv 1) (dv 0) (dv 2)))))))⟩

/-! _law_slot_delays -/
abbrev s__law_slot_delays : Stmt := top 33
abbrev N__law_slot_delays : List Str := ["service", "packets", "slot", "value", "ahead", "at", "one", "delay"]
theorem sc__law_slot_delays : FnScope N__law_slot_delays ["service", "packets", "slot", "value"] (defScope s__law_slot_delays) := ⟨rfl, rfl, rfl, by decide +kernel, rfl, by decide +kernel, by decide +kernel⟩
def w__law_slot_delays (cl : Nat → Addr) (Ξ : Xp) : Ws := (wSeq (wIfS (wB (wBin dEq (wBin dIx (wVar 0) (wC (.int 0))) (wC (.str "queue")))) (wSeq (wIfS (wNot (wB (wCall 3 (F__law_is_int cl) noX (wCons (wVar 3) (wCons (wC (.int 0)) (wCons (wBin dIx (wVar 0) (wC (.int 1))) wNil)))))) (wRet (wC .non)) wNext)
  (wSeq (wSetF 4 (wCB dMaxL (wCons (wBin dAdd (wLst (wCons (wC (.int 0)) wNil)) (wLc [6, 7] (wSeqI (wSl (wVar 1) (wPart (wUn dNeg (wC (.int 1)))) wNoPart)) (wgTup 2 (wgCons (wName 6) (wgCons (wName 7) wgNil))) wYes (wBin (dI0 fun i j => .int (i - j)) (wBin dAdd (wBin dAdd (wVar 6) (wVar 7)) (wC (.int 1))) (wVar 2)))) wNil)))
  (wRet (wLc [5] (wRng1 (wCons (wVar 3) wNil)) (wName 5) wYes (wCB dInt (wCons (wBin dAdd (wVar 4) (wVar 5)) wNil)))))) wNext)
  (wSeq (wIfS (wOr (wNot (wB (wIsi "tuple" (wVar 3)))) (wB (wBin (dI0 fun i j => .bl (decide (j < i))) (wCB dLen (wCons (wVar 3) wNil)) (wBin dIx (wVar 0) (wC (.int 1)))))) (wRet (wC .non)) wNext)
  (wRet (wCB dList (wCons (wVar 3) wNil)))))
def F__law_slot_delays (cl : Nat → Addr) : Fd := mkF (pin [0, 1, 2, 3]) 8 (w__law_slot_delays cl)
theorem cal__law_slot_delays {P : Program} {w : World} {K : PySem.W.Frag} {Ts : List (Addr × Str)} {mg : Str → Option Value} {base : Heap} {cl : Nat → Addr} {fI : Addr} (G : Gx K mg cl fI) (EX : Exx P w K mg base fI) (D : Dfn K mg "_law_slot_delays" s__law_slot_delays none) (C__law_is_int : Cal P w K Ts mg base 1 "_law_is_int" ["value", "least", "most"] (F__law_is_int cl)) : CalS P w K Ts mg base 2 "_law_slot_delays" s__law_slot_delays ["service", "packets", "slot", "value"] (F__law_slot_delays cl) :=
  cal_of D sc__law_slot_delays fun f cdv hcd A outer s H E B G0 Ξ lk hr hgd => ⟨_, (dss_cons (ds_if (dt_cmp (dc_eq hr.units) (de_ix (dv 0) de_int) de_str) (dss_cons (ds_if (dt_not (dt_val (by exact de_calN (KF := K) (Ts := Ts) C__law_is_int (hr.mono (by decide : 1 ≤ 1)) hgd (by exact (da_cons (dv 3) (da_cons de_int (da_cons (de_ix (dv 0) de_int) da_nil))))))) (dss_one (ds_ret de_non)) dss_nil)
      (dss_cons (ds_setF rfl sc__law_slot_delays.nd rfl (by first | exact Or.inl rfl | exact Or.inr rfl) (de_callB (db_maxL rfl) G.b_max (by decide +kernel) (da_cons (de_add (de_lst (da_cons de_int da_nil)) (de_lc (own := [("one", 6), ("delay", 7)]) (by rfl) sc__law_slot_delays.nd (by decide) (di_seq (de_sl (dv 1) (do_some (de_neg de_int)) do_none)) (blkOk_by (N := N__law_slot_delays) (sc := defScope s__law_slot_delays) (by decide +kernel)) (fun _ _ _ _ _ => (dg_tup rfl (dgs_cons (dg_name rfl sc__law_slot_delays.nd rfl (by first | exact Or.inl rfl | exact Or.inr rfl)) (dgs_cons (dg_name rfl sc__law_slot_delays.nd rfl (by first | exact Or.inl rfl | exact Or.inr rfl)) dgs_nil)))) (go_tup (K := (cxT P w K Ts mg base N__law_slot_delays "_law_slot_delays" (defScope s__law_slot_delays) f cdv A outer s H E B G0 Ξ lk).K) (n := 2) (gos_cons (go_name (i := 6) (by decide)) (gos_cons (go_name (i := 7) (by decide)) gos_nil))) (fun _ _ _ _ _ => pts_nil) wt_yes (fun _ _ _ _ _ => (de_sub (de_addK (KF := K) (de_addK (KF := K) (dv 6) (dv 7)) de_int) (dv 2))))) da_nil)))
      (dss_one (ds_ret (de_lc (own := [("at", 5)]) (by rfl) sc__law_slot_delays.nd (by decide) (di_rng1 rfl G.b_range (da_cons (dv 3) da_nil)) (blkOk_by (N := N__law_slot_delays) (sc := defScope s__law_slot_delays) (by decide +kernel)) (fun _ _ _ _ _ => (dg_name rfl sc__law_slot_delays.nd rfl (by first | exact Or.inl rfl | exact Or.inr rfl))) (go_name (i := 5) (by decide)) (fun _ _ _ _ _ => pts_nil) wt_yes (fun _ _ _ _ _ => (de_callT db_int G.b_int (by decide +kernel) (da_cons (de_addK (KF := K) (dv 4) (dv 5)) da_nil)))))))) dss_nil)
      (dss_cons (ds_if (DW.dt (dw_or (dt_not (dt_val (de_isi (by decide +kernel) G.b_isinstance G.b_tuple (by decide +kernel) (dv 3)))) (dw_or1 (dt_cmp dc_gt (de_callB db_len G.b_len (by decide +kernel) (da_cons (dv 3) da_nil)) (de_ix (dv 0) de_int))))) (dss_one (ds_ret de_non)) dss_nil)
      (dss_one (ds_ret (de_callT db_list G.b_list (by decide +kernel) (da_cons (dv 3) da_nil))))))⟩

/-! _law_packets -/
abbrev s__law_packets : Stmt := top 35
abbrev N__law_packets : List Str := ["service", "script", "packets", "slot", "value", "delay"]
theorem sc__law_packets : FnScope N__law_packets ["service", "script"] (defScope s__law_packets) := ⟨rfl, rfl, rfl, by decide +kernel, rfl, by decide +kernel, by decide +kernel⟩
def w__law_packets (cl : Nat → Addr) (Ξ : Xp) : Ws := (wSeq (wSet 2 (wLst wNil))
  (wSeq (wFor (wEnumX (wCons (wVar 1) wNil)) (wgTup 2 (wgCons (wName 3) (wgCons (wName 4) wgNil))) (wDrop (wExtend 2 (wCons (wLc [5] (wSeqI (wCall 4 (F__law_slot_delays cl) noX (wCons (wVar 0) (wCons (wVar 2) (wCons (wVar 3) (wCons (wVar 4) wNil)))))) (wName 5) wYes (wTup (wCons (wCB dInt (wCons (wVar 3) wNil)) (wCons (wCB dInt (wCons (wVar 5) wNil)) wNil)))) wNil))))
  (wRet (wVar 2))))
def F__law_packets (cl : Nat → Addr) : Fd := mkF (pin [0, 1]) 6 (w__law_packets cl)
theorem cal__law_packets {P : Program} {w : World} {K : PySem.W.Frag} {Ts : List (Addr × Str)} {mg : Str → Option Value} {base : Heap} {cl : Nat → Addr} {fI : Addr} (G : Gx K mg cl fI) (EX : Exx P w K mg base fI) (D : Dfn K mg "_law_packets" s__law_packets none) (C__law_slot_delays : Cal P w K Ts mg base 2 "_law_slot_delays" ["service", "packets", "slot", "value"] (F__law_slot_delays cl)) : CalS P w K Ts mg base 3 "_law_packets" s__law_packets ["service", "script"] (F__law_packets cl) :=
  cal_of D sc__law_packets fun f cdv hcd A outer s H E B G0 Ξ lk hr hgd => ⟨_, (dss_cons (ds_set rfl sc__law_packets.nd rfl (by first | exact Or.inl rfl | exact Or.inr rfl) (de_lst da_nil))
      (dss_cons (ds_for PassesOwn.leaving rfl (di_enumX G.b_enumerate (da_cons (dv 1) da_nil)) (dg_tup rfl (dgs_cons (dg_name rfl sc__law_packets.nd rfl (by first | exact Or.inl rfl | exact Or.inr rfl)) (dgs_cons (dg_name rfl sc__law_packets.nd rfl (by first | exact Or.inl rfl | exact Or.inr rfl)) dgs_nil))) (dss_one (ds_expr (de_extend (dv 2) (da_cons (de_lc (own := [("delay", 5)]) (by rfl) sc__law_packets.nd (by decide) (di_seq (by exact de_calN (KF := K) (Ts := Ts) C__law_slot_delays (hr.mono (by decide : 2 ≤ 2)) hgd (by exact (da_cons (dv 0) (da_cons (dv 2) (da_cons (dv 3) (da_cons (dv 4) da_nil))))))) (blkOk_by (N := N__law_packets) (sc := defScope s__law_packets) (by decide +kernel)) (fun _ _ _ _ _ => (dg_name rfl sc__law_packets.nd rfl (by first | exact Or.inl rfl | exact Or.inr rfl))) (go_name (i := 5) (by decide)) (fun _ _ _ _ _ => pts_nil) wt_yes (fun _ _ _ _ _ => (de_tup (da_cons (de_callT db_int G.b_int (by decide +kernel) (da_cons (dv 3) da_nil)) (da_cons (de_callT db_int G.b_int (by decide +kernel) (da_cons (dv 5) da_nil)) da_nil))))) da_nil)))))
      (dss_one (ds_ret (dv 2)))))⟩

/-! _law_can_stand -/
abbrev s__law_can_stand : Stmt := top 34
abbrev N__law_can_stand : List Str := ["service", "size", "packets", "slot", "value", "delays", "last", "before", "leaves", "delay", "one", "other"]
theorem sc__law_can_stand : FnScope N__law_can_stand ["service", "size", "packets", "slot", "value"] (defScope s__law_can_stand) := ⟨rfl, rfl, rfl, by decide +kernel, rfl, by decide +kernel, by decide +kernel⟩
def w__law_can_stand (cl : Nat → Addr) (Ξ : Xp) : Ws := (wSeq (wSetF 5 (wCall 4 (F__law_slot_delays cl) noX (wCons (wVar 0) (wCons (wVar 2) (wCons (wVar 3) (wCons (wVar 4) wNil))))))
  (wSeq (wIfS (wOr (wB (wBin dIsN (wVar 5) (wC .non))) (wNot (wB (wCB dAll (wCons (wLc [9] (wSeqI (wVar 5)) (wName 9) wYes (wCall 3 (F__law_is_int cl) noX (wCons (wVar 9) (wCons (wC (.int 0)) (wCons (wVar 1) wNil))))) wNil))))) (wRet (wC (.bl false))) wNext)
  (wSeq (wPuts [7, 8] (wConsH (wBoth 2 (wLcO 2 [10, 9] (wgTup 2 (wgCons (wName 10) (wgCons (wName 9) wgNil))) wYes (wBin dAdd (wVar 10) (wVar 9))) (wLc [10, 9] (wSeqI (wVar 2)) (wgTup 2 (wgCons (wName 10) (wgCons (wName 9) wgNil))) wYes (wBin dAdd (wVar 10) (wVar 9)))) (wConsH (wLc [9] (wSeqI (wVar 5)) (wName 9) wYes (wBin dAdd (wVar 3) (wVar 9))) wNil)))
  (wSeq (wIfS (wB (wBin dEq (wBin dIx (wVar 0) (wC (.int 0))) (wC (.str "any")))) (wRet (wBin dEq (wLenSet (wBin dAdd (wVar 7) (wVar 8))) (wBin dAdd (wCB dLen (wCons (wVar 7) wNil)) (wCB dLen (wCons (wVar 8) wNil))))) wNext)
  (wSeq (wSetF 6 (wCB dMaxL (wCons (wBin dAdd (wLst (wCons (wUn dNeg (wC (.int 1))) wNil)) (wVar 7)) wNil)))
  (wRet (wCB dAll (wCons (wLc [10, 11] (wZipX (wCons (wBin dAdd (wLst (wCons (wVar 6) wNil)) (wVar 8)) (wCons (wVar 8) wNil))) (wgTup 2 (wgCons (wName 10) (wgCons (wName 11) wgNil))) wYes (wBin (dI0 fun i j => .bl (decide (i < j))) (wVar 10) (wVar 11))) wNil))))))))
def F__law_can_stand (cl : Nat → Addr) : Fd := mkF (pin [0, 1, 2, 3, 4]) 12 (w__law_can_stand cl)
theorem cal__law_can_stand {P : Program} {w : World} {K : PySem.W.Frag} {Ts : List (Addr × Str)} {mg : Str → Option Value} {base : Heap} {cl : Nat → Addr} {fI : Addr} (G : Gx K mg cl fI) (EX : Exx P w K mg base fI) (D : Dfn K mg "_law_can_stand" s__law_can_stand none) (C__law_is_int : Cal P w K Ts mg base 1 "_law_is_int" ["value", "least", "most"] (F__law_is_int cl)) (C__law_slot_delays : Cal P w K Ts mg base 2 "_law_slot_delays" ["service", "packets", "slot", "value"] (F__law_slot_delays cl)) : CalS P w K Ts mg base 3 "_law_can_stand" s__law_can_stand ["service", "size", "packets", "slot", "value"] (F__law_can_stand cl) :=
  cal_of D sc__law_can_stand fun f cdv hcd A outer s H E B G0 Ξ lk hr hgd => ⟨_, (dss_cons (ds_setF rfl sc__law_can_stand.nd rfl (by first | exact Or.inl rfl | exact Or.inr rfl) (by exact de_calN (KF := K) (Ts := Ts) C__law_slot_delays (hr.mono (by decide : 2 ≤ 2)) hgd (by exact (da_cons (dv 0) (da_cons (dv 2) (da_cons (dv 3) (da_cons (dv 4) da_nil)))))))
      (dss_cons (ds_if (DW.dt (dw_or (dt_cmp dc_isN (dv 5) de_non) (dw_or1 (dt_not (dt_val (de_callB (db_all rfl) G.b_all (by decide +kernel) (da_cons (de_lc (own := [("delay", 9)]) (by rfl) sc__law_can_stand.nd (by decide) (di_seq (dv 5)) (blkOk_by (N := N__law_can_stand) (sc := defScope s__law_can_stand) (by decide +kernel)) (fun _ _ _ _ _ => (dg_name rfl sc__law_can_stand.nd rfl (by first | exact Or.inl rfl | exact Or.inr rfl))) (go_name (i := 9) (by decide)) (fun _ _ _ _ _ => pts_nil) wt_yes (fun _ _ _ _ _ => (by exact de_calN (KF := K) (Ts := Ts) C__law_is_int (hr.mono (by decide : 1 ≤ 2)) hgd (by exact (da_cons (dv 9) (da_cons de_int (da_cons (dv 1) da_nil))))))) da_nil))))))) (dss_one (ds_ret de_bl)) dss_nil)
      (dss_cons (ds_puts2 rfl rfl sc__law_can_stand.nd rfl rfl (by decide) rfl rfl (dah_cons (de_both 2 (de_lcO (own := [("one", 10), ("delay", 9)]) (by rfl) sc__law_can_stand.nd (by decide) (by decide) (dv 2) (blkOk_by (N := N__law_can_stand) (sc := defScope s__law_can_stand) (by decide +kernel)) (fun _ _ _ _ _ => (dg_tup rfl (dgs_cons (dg_name rfl sc__law_can_stand.nd rfl (by first | exact Or.inl rfl | exact Or.inr rfl)) (dgs_cons (dg_name rfl sc__law_can_stand.nd rfl (by first | exact Or.inl rfl | exact Or.inr rfl)) dgs_nil)))) (go_tup (K := (cxT P w K Ts mg base N__law_can_stand "_law_can_stand" (defScope s__law_can_stand) f cdv A outer s H E B G0 Ξ lk).K) (n := 2) (gos_cons (go_name (i := 10) (by decide)) (gos_cons (go_name (i := 9) (by decide)) gos_nil))) (fun _ _ _ _ _ => pts_nil) wt_yes (fun _ _ _ _ _ => (de_addK (KF := K) (dv 10) (dv 9)))) (de_lc (own := [("one", 10), ("delay", 9)]) (by rfl) sc__law_can_stand.nd (by decide) (di_seq (dv 2)) (blkOk_by (N := N__law_can_stand) (sc := defScope s__law_can_stand) (by decide +kernel)) (fun _ _ _ _ _ => (dg_tup rfl (dgs_cons (dg_name rfl sc__law_can_stand.nd rfl (by first | exact Or.inl rfl | exact Or.inr rfl)) (dgs_cons (dg_name rfl sc__law_can_stand.nd rfl (by first | exact Or.inl rfl | exact Or.inr rfl)) dgs_nil)))) (go_tup (K := (cxT P w K Ts mg base N__law_can_stand "_law_can_stand" (defScope s__law_can_stand) f cdv A outer s H E B G0 Ξ lk).K) (n := 2) (gos_cons (go_name (i := 10) (by decide)) (gos_cons (go_name (i := 9) (by decide)) gos_nil))) (fun _ _ _ _ _ => pts_nil) wt_yes (fun _ _ _ _ _ => (de_addK (KF := K) (dv 10) (dv 9))))) (dah_cons (de_lc (own := [("delay", 9)]) (by rfl) sc__law_can_stand.nd (by decide) (di_seq (dv 5)) (blkOk_by (N := N__law_can_stand) (sc := defScope s__law_can_stand) (by decide +kernel)) (fun _ _ _ _ _ => (dg_name rfl sc__law_can_stand.nd rfl (by first | exact Or.inl rfl | exact Or.inr rfl))) (go_name (i := 9) (by decide)) (fun _ _ _ _ _ => pts_nil) wt_yes (fun _ _ _ _ _ => (de_addK (KF := K) (dv 3) (dv 9)))) dah_nil)) (by rfl))
      (dss_cons (ds_if (dt_cmp (dc_eq hr.units) (de_ix (dv 0) de_int) de_str) (dss_one (ds_ret (de_cmp (dc_eq hr.units) (de_lenSet G.b_len G.b_set (de_add (dv 7) (dv 8))) (de_add (de_callB db_len G.b_len (by decide +kernel) (da_cons (dv 7) da_nil)) (de_callB db_len G.b_len (by decide +kernel) (da_cons (dv 8) da_nil)))))) dss_nil)
      (dss_cons (ds_setF rfl sc__law_can_stand.nd rfl (by first | exact Or.inl rfl | exact Or.inr rfl) (de_callB (db_maxL rfl) G.b_max (by decide +kernel) (da_cons (de_add (de_lst (da_cons (de_neg de_int) da_nil)) (dv 7)) da_nil)))
      (dss_one (ds_ret (de_callB (db_all rfl) G.b_all (by decide +kernel) (da_cons (de_lc (own := [("one", 10), ("other", 11)]) (by rfl) sc__law_can_stand.nd (by decide) (di_zipX G.b_zip (da_cons (de_add (de_lst (da_cons (dv 6) da_nil)) (dv 8)) (da_cons (dv 8) da_nil))) (blkOk_by (N := N__law_can_stand) (sc := defScope s__law_can_stand) (by decide +kernel)) (fun _ _ _ _ _ => (dg_tup rfl (dgs_cons (dg_name rfl sc__law_can_stand.nd rfl (by first | exact Or.inl rfl | exact Or.inr rfl)) (dgs_cons (dg_name rfl sc__law_can_stand.nd rfl (by first | exact Or.inl rfl | exact Or.inr rfl)) dgs_nil)))) (go_tup (K := (cxT P w K Ts mg base N__law_can_stand "_law_can_stand" (defScope s__law_can_stand) f cdv A outer s H E B G0 Ξ lk).K) (n := 2) (gos_cons (go_name (i := 10) (by decide)) (gos_cons (go_name (i := 11) (by decide)) gos_nil))) (fun _ _ _ _ _ => pts_nil) wt_yes (fun _ _ _ _ _ => (de_cmp dc_lt (dv 10) (dv 11)))) da_nil)))))))))⟩

/-! _law_all_scripts -/
abbrev s__law_all_scripts : Stmt := top 40
abbrev N__law_all_scripts : List Str := ["service", "size", "slots", "rows", "slot", "later", "script", "packets", "value"]
theorem sc__law_all_scripts : FnScope N__law_all_scripts ["service", "size", "slots"] (defScope s__law_all_scripts) := ⟨rfl, rfl, rfl, by decide +kernel, rfl, by decide +kernel, by decide +kernel⟩
def w__law_all_scripts (cl : Nat → Addr) (Ξ : Xp) : Ws := (wSeq (wSetF 3 (wLst (wCons (wTup wNil) wNil)))
  (wSeq (wFor (wRng1 (wCons (wVar 2) wNil)) (wName 4) (wSeq (wSet 5 (wLst wNil))
  (wSeq (wFor (wSeqI (wVar 3)) (wName 6) (wSeq (wSetF 7 (wCall 2 (F__law_packets cl) noX (wCons (wVar 0) (wCons (wVar 6) wNil))))
  (wFor (wSeqI (wCall 2 (F__law_slot_values cl) noX (wCons (wVar 0) (wCons (wVar 1) wNil)))) (wName 8) (wIfS (wB (wCall 5 (F__law_can_stand cl) noX (wCons (wVar 0) (wCons (wVar 1) (wCons (wVar 7) (wCons (wVar 4) (wCons (wVar 8) wNil))))))) (wDrop (wAppend 5 (wCons (wBin dAdd (wVar 6) (wTup (wCons (wVar 8) wNil))) wNil))) wNext))))
  (wSetF 3 (wVar 5)))))
  (wRet (wVar 3))))
def F__law_all_scripts (cl : Nat → Addr) : Fd := mkF (pin [0, 1, 2]) 9 (w__law_all_scripts cl)
theorem cal__law_all_scripts {P : Program} {w : World} {K : PySem.W.Frag} {Ts : List (Addr × Str)} {mg : Str → Option Value} {base : Heap} {cl : Nat → Addr} {fI : Addr} (G : Gx K mg cl fI) (EX : Exx P w K mg base fI) (D : Dfn K mg "_law_all_scripts" s__law_all_scripts none) (C__law_can_stand : Cal P w K Ts mg base 3 "_law_can_stand" ["service", "size", "packets", "slot", "value"] (F__law_can_stand cl)) (C__law_packets : Cal P w K Ts mg base 3 "_law_packets" ["service", "script"] (F__law_packets cl)) (C__law_slot_values : Cal P w K Ts mg base 1 "_law_slot_values" ["service", "size"] (F__law_slot_values cl)) : CalS P w K Ts mg base 4 "_law_all_scripts" s__law_all_scripts ["service", "size", "slots"] (F__law_all_scripts cl) :=
  cal_of D sc__law_all_scripts fun f cdv hcd A outer s H E B G0 Ξ lk hr hgd => ⟨_, (dss_cons (ds_setF rfl sc__law_all_scripts.nd rfl (by first | exact Or.inl rfl | exact Or.inr rfl) (de_lst (da_cons (de_tup da_nil) da_nil)))
      (dss_cons (ds_for PassesOwn.leaving rfl (di_rng1 rfl G.b_range (da_cons (dv 2) da_nil)) (dg_name rfl sc__law_all_scripts.nd rfl (by first | exact Or.inl rfl | exact Or.inr rfl)) (dss_cons (ds_set rfl sc__law_all_scripts.nd rfl (by first | exact Or.inl rfl | exact Or.inr rfl) (de_lst da_nil))
      (dss_cons (ds_for PassesOwn.leaving rfl (di_seq (dv 3)) (dg_name rfl sc__law_all_scripts.nd rfl (by first | exact Or.inl rfl | exact Or.inr rfl)) (dss_cons (ds_setF rfl sc__law_all_scripts.nd rfl (by first | exact Or.inl rfl | exact Or.inr rfl) (by exact de_calN (KF := K) (Ts := Ts) C__law_packets (hr.mono (by decide : 3 ≤ 3)) hgd (by exact (da_cons (dv 0) (da_cons (dv 6) da_nil)))))
      (dss_one (ds_for PassesOwn.leaving rfl (di_seq (by exact de_calN (KF := K) (Ts := Ts) C__law_slot_values (hr.mono (by decide : 1 ≤ 3)) hgd (by exact (da_cons (dv 0) (da_cons (dv 1) da_nil))))) (dg_name rfl sc__law_all_scripts.nd rfl (by first | exact Or.inl rfl | exact Or.inr rfl)) (dss_one (ds_if (dt_val (by exact de_calN (KF := K) (Ts := Ts) C__law_can_stand (hr.mono (by decide : 3 ≤ 3)) hgd (by exact (da_cons (dv 0) (da_cons (dv 1) (da_cons (dv 7) (da_cons (dv 4) (da_cons (dv 8) da_nil)))))))) (dss_one (ds_expr (de_append (dv 5) (da_cons (de_add (dv 6) (de_tup (da_cons (dv 8) da_nil))) da_nil)))) dss_nil))))))
      (dss_one (ds_setF rfl sc__law_all_scripts.nd rfl (by first | exact Or.inl rfl | exact Or.inr rfl) (dv 5))))))
      (dss_one (ds_ret (dv 3)))))⟩

/-! _law_has_shorter -/
abbrev s__law_has_shorter : Stmt := top 46
abbrev N__law_has_shorter : List Str := ["service", "size", "pair", "slots", "one"]
theorem sc__law_has_shorter : FnScope N__law_has_shorter ["service", "size", "pair"] (defScope s__law_has_shorter) := ⟨rfl, rfl, rfl, by decide +kernel, rfl, by decide +kernel, by decide +kernel⟩
def w__law_has_shorter (cl : Nat → Addr) (Ξ : Xp) : Ws := (wSeq (wSetF 3 (wBin (dI0 fun i j => .int (i - j)) (wCall 2 (F__law_fewest_slots cl) noX (wCons (wVar 0) (wCons (wVar 2) wNil))) (wC (.int 1))))
  (wSeq (wIfS (wOr (wB (wBin (dI0 fun i j => .bl (decide (j < i))) (wVar 1) (wC (.int 3)))) (wOr (wB (wBin (dI0 fun i j => .bl (decide (i < j))) (wVar 3) (wC (.int 1)))) (wB (wBin (dI0 fun i j => .bl (decide (j < i))) (wVar 3) (wBin dAdd (wC (.int 2)) (wCB dInt (wCons (wBin dEq (wBin dIx (wVar 0) (wC (.int 0))) (wC (.str "queue"))) wNil))))))) (wRet (wC (.bl false))) wNext)
  (wSeq (wIfS (wB (wBin (dI0 fun i j => .bl (decide (j < i))) (wCB dLen (wCons (wCall 2 (F__law_slot_values cl) noX (wCons (wVar 0) (wCons (wVar 1) wNil))) wNil)) (wC (.int 10)))) (wRet (wC (.bl false))) wNext)
  (wRet (wCB dAny (wCons (wLc [4] (wSeqI (wCall 3 (F__law_all_scripts cl) noX (wCons (wVar 0) (wCons (wVar 1) (wCons (wVar 3) wNil))))) (wName 4) wYes (wInT (wVar 2) (wCall 1 (F__law_pairs_in cl) noX (wCons (wCall 2 (F__law_packets cl) noX (wCons (wVar 0) (wCons (wVar 4) wNil))) wNil)))) wNil))))))
def F__law_has_shorter (cl : Nat → Addr) : Fd := mkF (pin [0, 1, 2]) 5 (w__law_has_shorter cl)
theorem cal__law_has_shorter {P : Program} {w : World} {K : PySem.W.Frag} {Ts : List (Addr × Str)} {mg : Str → Option Value} {base : Heap} {cl : Nat → Addr} {fI : Addr} (G : Gx K mg cl fI) (EX : Exx P w K mg base fI) (D : Dfn K mg "_law_has_shorter" s__law_has_shorter none) (C__law_all_scripts : Cal P w K Ts mg base 4 "_law_all_scripts" ["service", "size", "slots"] (F__law_all_scripts cl)) (C__law_fewest_slots : Cal P w K Ts mg base 1 "_law_fewest_slots" ["service", "pair"] (F__law_fewest_slots cl)) (C__law_packets : Cal P w K Ts mg base 3 "_law_packets" ["service", "script"] (F__law_packets cl)) (C__law_pairs_in : Cal P w K Ts mg base 1 "_law_pairs_in" ["packets"] (F__law_pairs_in cl)) (C__law_slot_values : Cal P w K Ts mg base 1 "_law_slot_values" ["service", "size"] (F__law_slot_values cl)) : CalS P w K Ts mg base 5 "_law_has_shorter" s__law_has_shorter ["service", "size", "pair"] (F__law_has_shorter cl) :=
  cal_of D sc__law_has_shorter fun f cdv hcd A outer s H E B G0 Ξ lk hr hgd => ⟨_, (dss_cons (ds_setF rfl sc__law_has_shorter.nd rfl (by first | exact Or.inl rfl | exact Or.inr rfl) (de_sub (by exact de_calN (KF := K) (Ts := Ts) C__law_fewest_slots (hr.mono (by decide : 1 ≤ 4)) hgd (by exact (da_cons (dv 0) (da_cons (dv 2) da_nil)))) de_int))
      (dss_cons (ds_if (DW.dt (dw_or (dt_cmp dc_gt (dv 1) de_int) (dw_or (dt_cmp dc_lt (dv 3) de_int) (dw_or1 (dt_cmp dc_gt (dv 3) (de_add de_int (de_callT db_int G.b_int (by decide +kernel) (da_cons (de_cmp (dc_eq hr.units) (de_ix (dv 0) de_int) de_str) da_nil)))))))) (dss_one (ds_ret de_bl)) dss_nil)
      (dss_cons (ds_if (dt_cmp dc_gt (de_callB db_len G.b_len (by decide +kernel) (da_cons (by exact de_calN (KF := K) (Ts := Ts) C__law_slot_values (hr.mono (by decide : 1 ≤ 4)) hgd (by exact (da_cons (dv 0) (da_cons (dv 1) da_nil)))) da_nil)) de_int) (dss_one (ds_ret de_bl)) dss_nil)
      (dss_one (ds_ret (de_callB (db_any rfl) G.b_any (by decide +kernel) (da_cons (de_lc (own := [("one", 4)]) (by rfl) sc__law_has_shorter.nd (by decide) (di_seq (by exact de_calN (KF := K) (Ts := Ts) C__law_all_scripts (hr.mono (by decide : 4 ≤ 4)) hgd (by exact (da_cons (dv 0) (da_cons (dv 1) (da_cons (dv 3) da_nil)))))) (blkOk_by (N := N__law_has_shorter) (sc := defScope s__law_has_shorter) (by decide +kernel)) (fun _ _ _ _ _ => (dg_name rfl sc__law_has_shorter.nd rfl (by first | exact Or.inl rfl | exact Or.inr rfl))) (go_name (i := 4) (by decide)) (fun _ _ _ _ _ => pts_nil) wt_yes (fun _ _ _ _ _ => (de_inTK (KF := K) (hu_of hr) (dv 2) (by exact de_calN (KF := K) (Ts := Ts) C__law_pairs_in (hr.mono (by decide : 1 ≤ 4)) hgd (by exact (da_cons (by exact de_calN (KF := K) (Ts := Ts) C__law_packets (hr.mono (by decide : 3 ≤ 4)) hgd (by exact (da_cons (dv 0) (da_cons (dv 4) da_nil)))) da_nil)))))) da_nil)))))))⟩

/-! _law_first_wrong -/
abbrev s__law_first_wrong : Stmt := top 36
abbrev N__law_first_wrong : List Str := ["service", "size", "script", "packets", "slot", "value", "delay"]
theorem sc__law_first_wrong : FnScope N__law_first_wrong ["service", "size", "script"] (defScope s__law_first_wrong) := ⟨rfl, rfl, rfl, by decide +kernel, rfl, by decide +kernel, by decide +kernel⟩
def w__law_first_wrong (cl : Nat → Addr) (Ξ : Xp) : Ws := (wSeq (wSet 3 (wLst wNil))
  (wSeq (wFor (wEnumX (wCons (wVar 2) wNil)) (wgTup 2 (wgCons (wName 4) (wgCons (wName 5) wgNil))) (wSeq (wIfS (wNot (wB (wCall 5 (F__law_can_stand cl) noX (wCons (wVar 0) (wCons (wVar 1) (wCons (wVar 3) (wCons (wVar 4) (wCons (wVar 5) wNil)))))))) (wRet (wCB dInt (wCons (wVar 4) wNil))) wNext)
  (wDrop (wExtend 3 (wCons (wLc [6] (wSeqI (wCall 4 (F__law_slot_delays cl) noX (wCons (wVar 0) (wCons (wVar 3) (wCons (wVar 4) (wCons (wVar 5) wNil)))))) (wName 6) wYes (wTup (wCons (wCB dInt (wCons (wVar 4) wNil)) (wCons (wCB dInt (wCons (wVar 6) wNil)) wNil)))) wNil)))))
  (wRet (wC .non))))
def F__law_first_wrong (cl : Nat → Addr) : Fd := mkF (pin [0, 1, 2]) 7 (w__law_first_wrong cl)
theorem cal__law_first_wrong {P : Program} {w : World} {K : PySem.W.Frag} {Ts : List (Addr × Str)} {mg : Str → Option Value} {base : Heap} {cl : Nat → Addr} {fI : Addr} (G : Gx K mg cl fI) (EX : Exx P w K mg base fI) (D : Dfn K mg "_law_first_wrong" s__law_first_wrong none) (C__law_can_stand : Cal P w K Ts mg base 3 "_law_can_stand" ["service", "size", "packets", "slot", "value"] (F__law_can_stand cl)) (C__law_slot_delays : Cal P w K Ts mg base 2 "_law_slot_delays" ["service", "packets", "slot", "value"] (F__law_slot_delays cl)) : CalS P w K Ts mg base 4 "_law_first_wrong" s__law_first_wrong ["service", "size", "script"] (F__law_first_wrong cl) :=
  cal_of D sc__law_first_wrong fun f cdv hcd A outer s H E B G0 Ξ lk hr hgd => ⟨_, (dss_cons (ds_set rfl sc__law_first_wrong.nd rfl (by first | exact Or.inl rfl | exact Or.inr rfl) (de_lst da_nil))
      (dss_cons (ds_for PassesOwn.leaving rfl (di_enumX G.b_enumerate (da_cons (dv 2) da_nil)) (dg_tup rfl (dgs_cons (dg_name rfl sc__law_first_wrong.nd rfl (by first | exact Or.inl rfl | exact Or.inr rfl)) (dgs_cons (dg_name rfl sc__law_first_wrong.nd rfl (by first | exact Or.inl rfl | exact Or.inr rfl)) dgs_nil))) (dss_cons (ds_if (dt_not (dt_val (by exact de_calN (KF := K) (Ts := Ts) C__law_can_stand (hr.mono (by decide : 3 ≤ 3)) hgd (by exact (da_cons (dv 0) (da_cons (dv 1) (da_cons (dv 3) (da_cons (dv 4) (da_cons (dv 5) da_nil))))))))) (dss_one (ds_ret (de_callT db_int G.b_int (by decide +kernel) (da_cons (dv 4) da_nil)))) dss_nil)
      (dss_one (ds_expr (de_extend (dv 3) (da_cons (de_lc (own := [("delay", 6)]) (by rfl) sc__law_first_wrong.nd (by decide) (di_seq (by exact de_calN (KF := K) (Ts := Ts) C__law_slot_delays (hr.mono (by decide : 2 ≤ 3)) hgd (by exact (da_cons (dv 0) (da_cons (dv 3) (da_cons (dv 4) (da_cons (dv 5) da_nil))))))) (blkOk_by (N := N__law_first_wrong) (sc := defScope s__law_first_wrong) (by decide +kernel)) (fun _ _ _ _ _ => (dg_name rfl sc__law_first_wrong.nd rfl (by first | exact Or.inl rfl | exact Or.inr rfl))) (go_name (i := 6) (by decide)) (fun _ _ _ _ _ => pts_nil) wt_yes (fun _ _ _ _ _ => (de_tup (da_cons (de_callT db_int G.b_int (by decide +kernel) (da_cons (dv 4) da_nil)) (da_cons (de_callT db_int G.b_int (by decide +kernel) (da_cons (dv 6) da_nil)) da_nil))))) da_nil))))))
      (dss_one (ds_ret de_non))))⟩

/-! _law_is_script -/
abbrev s__law_is_script : Stmt := top 37
abbrev N__law_is_script : List Str := ["service", "size", "value"]
theorem sc__law_is_script : FnScope N__law_is_script ["service", "size", "value"] (defScope s__law_is_script) := ⟨rfl, rfl, rfl, by decide +kernel, rfl, by decide +kernel, by decide +kernel⟩
def w__law_is_script (cl : Nat → Addr) (Ξ : Xp) : Ws := (wRet (wAndV (wIsi "tuple" (wVar 2)) (wAndV (wBin (dI0 fun i j => .bl (decide (i ≤ j))) (wCB dLen (wCons (wVar 2) wNil)) (wC (.int 1000))) (wBin dIsN (wCall 3 (F__law_first_wrong cl) noX (wCons (wVar 0) (wCons (wVar 1) (wCons (wVar 2) wNil)))) (wC .non)))))
def F__law_is_script (cl : Nat → Addr) : Fd := mkF (pin [0, 1, 2]) 3 (w__law_is_script cl)
theorem cal__law_is_script {P : Program} {w : World} {K : PySem.W.Frag} {Ts : List (Addr × Str)} {mg : Str → Option Value} {base : Heap} {cl : Nat → Addr} {fI : Addr} (G : Gx K mg cl fI) (EX : Exx P w K mg base fI) (D : Dfn K mg "_law_is_script" s__law_is_script none) (C__law_first_wrong : Cal P w K Ts mg base 4 "_law_first_wrong" ["service", "size", "script"] (F__law_first_wrong cl)) : CalS P w K Ts mg base 5 "_law_is_script" s__law_is_script ["service", "size", "value"] (F__law_is_script cl) :=
  cal_of D sc__law_is_script fun f cdv hcd A outer s H E B G0 Ξ lk hr hgd => ⟨_, (dss_one (ds_ret (de_and (de_isi (by decide +kernel) G.b_isinstance G.b_tuple (by decide +kernel) (dv 2)) (de_and (de_cmp dc_le (de_callB db_len G.b_len (by decide +kernel) (da_cons (dv 2) da_nil)) de_int) (de_one (de_cmp dc_isN (by exact de_calN (KF := K) (Ts := Ts) C__law_first_wrong (hr.mono (by decide : 4 ≤ 4)) hgd (by exact (da_cons (dv 0) (da_cons (dv 1) (da_cons (dv 2) da_nil))))) de_non))))))⟩

/-! _law_shows -/
abbrev s__law_shows : Stmt := top 45
abbrev N__law_shows : List Str := ["service", "size", "pair", "told", "packets", "shown", "script", "one", "other"]
theorem sc__law_shows : FnScope N__law_shows ["service", "size", "pair", "told"] (defScope s__law_shows) := ⟨rfl, rfl, rfl, by decide +kernel, rfl, by decide +kernel, by decide +kernel⟩
def w__law_shows (cl : Nat → Addr) (Ξ : Xp) : Ws := (wSeq (wIfS (wOr (wNot (wB (wIsi "tuple" (wVar 3)))) (wOr (wB (wBin dNeX (wCB dLen (wCons (wVar 3) wNil)) (wC (.int 3)))) (wNot (wB (wCall 3 (F__law_is_script cl) noX (wCons (wVar 0) (wCons (wVar 1) (wCons (wBin dIx (wVar 3) (wC (.int 0))) wNil)))))))) (wRet (wC (.bl false))) wNext)
  (wSeq (wUnp (wVar 3) (wgTup 3 (wgCons (wName 6) (wgCons (wName 7) (wgCons (wName 8) wgNil)))))
  (wSeq (wSetF 4 (wCall 2 (F__law_packets cl) noX (wCons (wVar 0) (wCons (wVar 6) wNil))))
  (wSeq (wIfS (wOr (wNot (wB (wCall 3 (F__law_is_int cl) noX (wCons (wVar 7) (wCons (wC (.int 0)) (wCons (wBin (dI0 fun i j => .int (i - j)) (wCB dLen (wCons (wVar 4) wNil)) (wC (.int 1))) wNil)))))) (wOr (wNot (wB (wCall 3 (F__law_is_int cl) noX (wCons (wVar 8) (wCons (wC (.int 0)) (wCons (wBin (dI0 fun i j => .int (i - j)) (wCB dLen (wCons (wVar 4) wNil)) (wC (.int 1))) wNil)))))) (wB (wBin (dI0 fun i j => .bl (decide (j ≤ i))) (wVar 7) (wVar 8))))) (wRet (wC (.bl false))) wNext)
  (wSeq (wSetF 5 (wTup (wCons (wBin dIx (wBin dIx (wVar 4) (wVar 7)) (wC (.int 1))) (wCons (wBin dIx (wBin dIx (wVar 4) (wVar 8)) (wC (.int 1))) (wCons (wBin (dI0 fun i j => .int (i - j)) (wBin dIx (wBin dIx (wVar 4) (wVar 8)) (wC (.int 0))) (wBin dIx (wBin dIx (wVar 4) (wVar 7)) (wC (.int 0)))) wNil)))))
  (wRet (wAndV (wBin dEq (wVar 5) (wVar 2)) (wBin dEq (wCB dLen (wCons (wVar 6) wNil)) (wCall 2 (F__law_fewest_slots cl) noX (wCons (wVar 0) (wCons (wVar 2) wNil)))))))))))
def F__law_shows (cl : Nat → Addr) : Fd := mkF (pin [0, 1, 2, 3]) 9 (w__law_shows cl)
theorem cal__law_shows {P : Program} {w : World} {K : PySem.W.Frag} {Ts : List (Addr × Str)} {mg : Str → Option Value} {base : Heap} {cl : Nat → Addr} {fI : Addr} (G : Gx K mg cl fI) (EX : Exx P w K mg base fI) (D : Dfn K mg "_law_shows" s__law_shows none) (C__law_fewest_slots : Cal P w K Ts mg base 1 "_law_fewest_slots" ["service", "pair"] (F__law_fewest_slots cl)) (C__law_is_int : Cal P w K Ts mg base 1 "_law_is_int" ["value", "least", "most"] (F__law_is_int cl)) (C__law_is_script : Cal P w K Ts mg base 5 "_law_is_script" ["service", "size", "value"] (F__law_is_script cl)) (C__law_packets : Cal P w K Ts mg base 3 "_law_packets" ["service", "script"] (F__law_packets cl)) : CalS P w K Ts mg base 6 "_law_shows" s__law_shows ["service", "size", "pair", "told"] (F__law_shows cl) :=
  cal_of D sc__law_shows fun f cdv hcd A outer s H E B G0 Ξ lk hr hgd => ⟨_, (dss_cons (ds_if (DW.dt (dw_or (dt_not (dt_val (de_isi (by decide +kernel) G.b_isinstance G.b_tuple (by decide +kernel) (dv 3)))) (dw_or (dt_cmp (dc_neX hr.units) (de_callB db_len G.b_len (by decide +kernel) (da_cons (dv 3) da_nil)) de_int) (dw_or1 (dt_not (dt_val (by exact de_calN (KF := K) (Ts := Ts) C__law_is_script (hr.mono (by decide : 5 ≤ 5)) hgd (by exact (da_cons (dv 0) (da_cons (dv 1) (da_cons (de_ix (dv 3) de_int) da_nil))))))))))) (dss_one (ds_ret de_bl)) dss_nil)
      (dss_cons (ds_unp (dv 3) (dg_tup rfl (dgs_cons (dg_name rfl sc__law_shows.nd rfl (by first | exact Or.inl rfl | exact Or.inr rfl)) (dgs_cons (dg_name rfl sc__law_shows.nd rfl (by first | exact Or.inl rfl | exact Or.inr rfl)) (dgs_cons (dg_name rfl sc__law_shows.nd rfl (by first | exact Or.inl rfl | exact Or.inr rfl)) dgs_nil)))))
      (dss_cons (ds_setF rfl sc__law_shows.nd rfl (by first | exact Or.inl rfl | exact Or.inr rfl) (by exact de_calN (KF := K) (Ts := Ts) C__law_packets (hr.mono (by decide : 3 ≤ 5)) hgd (by exact (da_cons (dv 0) (da_cons (dv 6) da_nil)))))
      (dss_cons (ds_if (DW.dt (dw_or (dt_not (dt_val (by exact de_calN (KF := K) (Ts := Ts) C__law_is_int (hr.mono (by decide : 1 ≤ 5)) hgd (by exact (da_cons (dv 7) (da_cons de_int (da_cons (de_sub (de_callB db_len G.b_len (by decide +kernel) (da_cons (dv 4) da_nil)) de_int) da_nil))))))) (dw_or (dt_not (dt_val (by exact de_calN (KF := K) (Ts := Ts) C__law_is_int (hr.mono (by decide : 1 ≤ 5)) hgd (by exact (da_cons (dv 8) (da_cons de_int (da_cons (de_sub (de_callB db_len G.b_len (by decide +kernel) (da_cons (dv 4) da_nil)) de_int) da_nil))))))) (dw_or1 (dt_cmp dc_ge (dv 7) (dv 8)))))) (dss_one (ds_ret de_bl)) dss_nil)
      (dss_cons (ds_setF rfl sc__law_shows.nd rfl (by first | exact Or.inl rfl | exact Or.inr rfl) (de_tup (da_cons (de_ix (de_ix (dv 4) (dv 7)) de_int) (da_cons (de_ix (de_ix (dv 4) (dv 8)) de_int) (da_cons (de_sub (de_ix (de_ix (dv 4) (dv 8)) de_int) (de_ix (de_ix (dv 4) (dv 7)) de_int)) da_nil)))))
      (dss_one (ds_ret (de_and (de_cmp (dc_eq hr.units) (dv 5) (dv 2)) (de_one (de_cmp (dc_eq hr.units) (de_callB db_len G.b_len (by decide +kernel) (da_cons (dv 6) da_nil)) (by exact de_calN (KF := K) (Ts := Ts) C__law_fewest_slots (hr.mono (by decide : 1 ≤ 5)) hgd (by exact (da_cons (dv 0) (da_cons (dv 2) da_nil))))))))))))))⟩

/-! _law_right -/
abbrev s__law_right : Stmt := top 47
abbrev N__law_right : List Str := ["pot", "lap", "service", "size", "pair", "caught", "told"]
theorem sc__law_right : FnScope N__law_right ["pot"] (defScope s__law_right) := ⟨rfl, rfl, rfl, by decide +kernel, rfl, by decide +kernel, by decide +kernel⟩
def w__law_right (cl : Nat → Addr) (Ξ : Xp) : Ws := (wSeq (wFor (wRng1 (wCons (wC (.int 8)) wNil)) (wName 1) (wSeq (wSetF 2 (wCall 1 (F__law_service cl) noX (wCons (wVar 0) wNil)))
  (wSeq (wSetF 3 (wCB dInt (wCons (wBin dAdd (wC (.int 1)) (wCall 2 (F__law_take cl) noX (wCons (wVar 0) (wCons (wIf (wB (wBin dEq (wBin (dI CPos fun i j => .int (i % j)) (wVar 1) (wC (.int 2))) (wC (.int 0)))) (wC (.int 3)) (wC (.int 40))) wNil)))) wNil)))
  (wSeq (wSetF 4 (wCall 3 (F__law_pair cl) noX (wCons (wVar 0) (wCons (wVar 2) (wCons (wVar 3) wNil)))))
  (wSeq (wUnp (wLam (F__law_heard cl) fun Ξ => (wCall 3 (F_pair_script cl) Ξ (wPick [1, 2, 0] fun ρ Q => (wCons (wVar 4) (wCons (wVar 2) (wCons (wVar 3) wNil))) ρ fun rs ρ1 => rs.length = 3 ∧ Q rs ρ1))) (wgTup 2 (wgCons (wName 5) (wgCons (wName 6) wgNil))))
  (wIfS (wNot (wB (wCall 3 (F__law_can_be cl) noX (wCons (wVar 2) (wCons (wVar 3) (wCons (wVar 4) wNil)))))) (wIfS (wOr (wNot (wB (wIsE cl 5 (kb 3) (wVar 5)))) (wB (wBin dNeX (wCB dReprX (wCons (wVal cl 5 (wVar 5)) wNil)) (wCB dReprX (wCons (wVar 4) wNil))))) (wRet (wC (.bl false))) wNext) (wIfS (wOr (wB (wBin dNotN (wVar 5) (wC .non))) (wNot (wB (wCall 4 (F__law_shows cl) noX (wCons (wVar 2) (wCons (wVar 3) (wCons (wVar 4) (wCons (wVar 6) wNil)))))))) (wRet (wC (.bl false))) (wIfS (wB (wCall 3 (F__law_has_shorter cl) noX (wCons (wVar 2) (wCons (wVar 3) (wCons (wVar 4) wNil))))) (wRet (wC (.bl false))) wNext))))))))
  (wRet (wC (.bl true))))
def F__law_right (cl : Nat → Addr) : Fd := mkF (pin [0]) 7 (w__law_right cl)
theorem cal__law_right {P : Program} {w : World} {K : PySem.W.Frag} {Ts : List (Addr × Str)} {mg : Str → Option Value} {base : Heap} {cl : Nat → Addr} {fI : Addr} (G : Gx K mg cl fI) (EX : Exx P w K mg base fI) {c Pt : Addr} (TB : LamX.TabB base mg c Pt) (hmT : ((Pt, (("_law_right" : Str) ++ ".<locals>.") ++ "<lambda>") : Addr × Str) ∈ Ts) (hu : ∀ p ∈ Ts, p.1 = Pt → p.2 = (("_law_right" : Str) ++ ".<locals>.") ++ "<lambda>") (D : Dfn K mg "_law_right" s__law_right (some c)) (C__law_can_be : Cal P w K Ts mg base 1 "_law_can_be" ["service", "size", "pair"] (F__law_can_be cl)) (C__law_has_shorter : Cal P w K Ts mg base 5 "_law_has_shorter" ["service", "size", "pair"] (F__law_has_shorter cl)) (C__law_pair : Cal P w K Ts mg base 3 "_law_pair" ["pot", "service", "size"] (F__law_pair cl)) (C__law_service : Cal P w K Ts mg base 3 "_law_service" ["pot"] (F__law_service cl)) (C__law_shows : Cal P w K Ts mg base 6 "_law_shows" ["service", "size", "pair", "told"] (F__law_shows cl)) (C__law_take : Cal P w K Ts mg base 1 "_law_take" ["pot", "upto"] (F__law_take cl)) (H__law_heard : Hrd P w K Ts mg base "_law_heard" "deed" (F__law_heard cl)) (C_pair_script_K120 : CalW P w K Ts mg base 6 "pair_script" ["service", "size", "pair"] ["pair", "service", "size"] [1, 2, 0] (F_pair_script cl)) : CalS P w K Ts mg base 9 "_law_right" s__law_right ["pot"] (F__law_right cl) :=
  cal_of D sc__law_right fun f cdv hcd A outer s H E B G0 Ξ lk hr hgd => ⟨_, (dss_cons (ds_for PassesOwn.leaving rfl (di_rng1 rfl G.b_range (da_cons de_int da_nil)) (dg_name rfl sc__law_right.nd rfl (by first | exact Or.inl rfl | exact Or.inr rfl)) (dss_cons (ds_setF rfl sc__law_right.nd rfl (by first | exact Or.inl rfl | exact Or.inr rfl) (by exact de_calN (KF := K) (Ts := Ts) C__law_service (hr.mono (by decide : 3 ≤ 8)) hgd (by exact (da_cons (dv 0) da_nil))))
      (dss_cons (ds_setF rfl sc__law_right.nd rfl (by first | exact Or.inl rfl | exact Or.inr rfl) (de_callT db_int G.b_int (by decide +kernel) (da_cons (de_add de_int (by exact de_calN (KF := K) (Ts := Ts) C__law_take (hr.mono (by decide : 1 ≤ 8)) hgd (by exact (da_cons (dv 0) (da_cons (de_if (dt_cmp (dc_eq hr.units) (de_mod (dv 1) de_int) de_int) de_int de_int) da_nil))))) da_nil)))
      (dss_cons (ds_setF rfl sc__law_right.nd rfl (by first | exact Or.inl rfl | exact Or.inr rfl) (by exact de_calN (KF := K) (Ts := Ts) C__law_pair (hr.mono (by decide : 3 ≤ 8)) hgd (by exact (da_cons (dv 0) (da_cons (dv 2) (da_cons (dv 3) da_nil))))))
      (dss_cons (ds_unp (by exact de_lamK (KF := K) (Ts := Ts) H__law_heard rfl TB (hcd _ rfl) hmT hu (hr.mono (by decide : 6 + 2 ≤ 8)) hgd (LamX.lamS_by (by rfl)) rfl (fun _ _ _ _ _ => rfl) (fun f c' A outer s H E B0 G0 H0 Ξ lk hr hgd => (by exact de_calKw (KF := K) (Ts := Ts) (ks := ["pair", "service", "size"]) (pk := [1, 2, 0]) (W := fun cls d _ H' => E cls d H') (Ξ := Ξ) C_pair_script_K120 (hr.mono (by decide : 6 ≤ 6)) hgd (by exact (dk_cons (dv 4) (dk_cons (dv 2) (dk_cons (dv 3) dk_nil)))) (by exact CxT.tk _) (by exact CxT.lk _) (by decide)))) (dg_tup rfl (dgs_cons (dg_name rfl sc__law_right.nd rfl (by first | exact Or.inl rfl | exact Or.inr rfl)) (dgs_cons (dg_name rfl sc__law_right.nd rfl (by first | exact Or.inl rfl | exact Or.inr rfl)) dgs_nil))))
      (dss_one (ds_if (dt_not (dt_val (by exact de_calN (KF := K) (Ts := Ts) C__law_can_be (hr.mono (by decide : 1 ≤ 8)) hgd (by exact (da_cons (dv 2) (da_cons (dv 3) (da_cons (dv 4) da_nil))))))) (dss_one (ds_if (DW.dt (dw_or (dt_not (dt_val (de_isE G.b_isinstance G.n_NoPair (fun i hi => ⟨G.ek i hi, G.ki 3 (by decide) i hi⟩) (dv 5)))) (dw_or1 (dt_cmp (dc_neX hr.units) (de_callB (db_reprX hgd (room66 hr)) G.b_repr (by decide +kernel) (da_cons (de_val G.ek (dv 5)) da_nil)) (de_callB (db_reprX hgd (room66 hr)) G.b_repr (by decide +kernel) (da_cons (dv 4) da_nil)))))) (dss_one (ds_ret de_bl)) dss_nil)) (dss_one (ds_if (DW.dt (dw_or (dt_cmp dc_notN (dv 5) de_non) (dw_or1 (dt_not (dt_val (by exact de_calN (KF := K) (Ts := Ts) C__law_shows (hr.mono (by decide : 6 ≤ 8)) hgd (by exact (da_cons (dv 2) (da_cons (dv 3) (da_cons (dv 4) (da_cons (dv 6) da_nil))))))))))) (dss_one (ds_ret de_bl)) (dss_one (ds_if (dt_val (by exact de_calN (KF := K) (Ts := Ts) C__law_has_shorter (hr.mono (by decide : 5 ≤ 8)) hgd (by exact (da_cons (dv 2) (da_cons (dv 3) (da_cons (dv 4) da_nil)))))) (dss_one (ds_ret de_bl)) dss_nil)))))))))))
      (dss_one (ds_ret de_bl)))⟩

/-! _law_pot -/
abbrev s__law_pot : Stmt := top 27
abbrev N__law_pot : List Str := ["script", "place", "cell", "own", "small"]
theorem sc__law_pot : FnScope N__law_pot ["script", "place"] (defScope s__law_pot) := ⟨rfl, rfl, rfl, by decide +kernel, rfl, by decide +kernel, by decide +kernel⟩
def w__law_pot (cl : Nat → Addr) (Ξ : Xp) : Ws := (wSeq (wSetF 2 (wIf (wB (wBin (dI0 fun i j => .bl (decide (i < j))) (wVar 1) (wCB dLen (wCons (wVar 0) wNil)))) (wBin dIx (wVar 0) (wVar 1)) (wBin dAdd (wBin dAdd (wBin (dI CPos fun i j => .int (i % j)) (wCB dSum (wCons (wSl (wVar 0) wNoPart (wPart (wC (.int 1)))) wNil)) (wC (.int 1000003))) (wBin (dI CMulX fun i j => .int (i * j)) (wC (.int 1253)) (wVar 1))) (wC (.int 569)))))
  (wSeq (wSetF 3 (wBin (dI CMulX fun i j => .int (i * j)) (wBin (dI CPos fun i j => .int (i % j)) (wCB dInt (wCons (wCB dAbs (wCons (wVar 2) wNil)) wNil)) (wBin (dI CPowX fun i j => .int (i ^ j.toNat)) (wBin (dI CPowX fun i j => .int (i ^ j.toNat)) (wC (.int 10)) (wC (.int 60))) (wC (.int 5)))) (wCB dInt (wCons (wBin (dI0 fun i j => .bl (decide (j ≤ i))) (wCB dAbs (wCons (wVar 2) wNil)) (wBin (dI CPowX fun i j => .int (i ^ j.toNat)) (wC (.int 10)) (wC (.int 18)))) wNil))))
  (wSeq (wSetF 4 (wBin (dI CPos fun i j => .int (i % j)) (wCB dInt (wCons (wVar 2) wNil)) (wC (.int 2305843009213693951))))
  (wRet (wLst (wCons (wVar 3) (wCons (wBin (dI CPos fun i j => .int (i % j)) (wCB dInt (wCons (wBin dAdd (wBin dAdd (wBin (dI CMulX fun i j => .int (i * j)) (wVar 4) (wC (.int 74651))) (wBin (dI CMulX fun i j => .int (i * j)) (wBin (dI CMulX fun i j => .int (i * j)) (wC (.int 8257)) (wVar 1)) (wVar 1))) (wC (.int 537))) wNil)) (wC (.int 2305843009213693921))) (wCons (wC (.int 0)) wNil))))))))
def F__law_pot (cl : Nat → Addr) : Fd := mkF (pin [0, 1]) 5 (w__law_pot cl)
theorem cal__law_pot {P : Program} {w : World} {K : PySem.W.Frag} {Ts : List (Addr × Str)} {mg : Str → Option Value} {base : Heap} {cl : Nat → Addr} {fI : Addr} (G : Gx K mg cl fI) (EX : Exx P w K mg base fI) (D : Dfn K mg "_law_pot" s__law_pot none)  : CalS P w K Ts mg base 1 "_law_pot" s__law_pot ["script", "place"] (F__law_pot cl) :=
  cal_of D sc__law_pot fun f cdv hcd A outer s H E B G0 Ξ lk hr hgd => ⟨_, (dss_cons (ds_setF rfl sc__law_pot.nd rfl (by first | exact Or.inl rfl | exact Or.inr rfl) (de_if (dt_cmp dc_lt (dv 1) (de_callB db_len G.b_len (by decide +kernel) (da_cons (dv 0) da_nil))) (de_ix (dv 0) (dv 1)) (de_add (de_add (de_mod (de_callB (db_sum rfl) G.b_sum (by decide +kernel) (da_cons (de_sl (dv 0) do_none (do_some de_int)) da_nil)) de_int) (de_mul de_int (dv 1))) de_int)))
      (dss_cons (ds_setF rfl sc__law_pot.nd rfl (by first | exact Or.inl rfl | exact Or.inr rfl) (de_mul (de_mod (de_callT db_int G.b_int (by decide +kernel) (da_cons (de_callB db_abs G.b_abs (by decide +kernel) (da_cons (dv 2) da_nil)) da_nil)) (de_pow (de_pow de_int de_int) de_int)) (de_callT db_int G.b_int (by decide +kernel) (da_cons (de_cmp dc_ge (de_callB db_abs G.b_abs (by decide +kernel) (da_cons (dv 2) da_nil)) (de_pow de_int de_int)) da_nil))))
      (dss_cons (ds_setF rfl sc__law_pot.nd rfl (by first | exact Or.inl rfl | exact Or.inr rfl) (de_mod (de_callT db_int G.b_int (by decide +kernel) (da_cons (dv 2) da_nil)) de_int))
      (dss_one (ds_ret (de_lst (da_cons (dv 3) (da_cons (de_mod (de_callT db_int G.b_int (by decide +kernel) (da_cons (de_add (de_add (de_mul (dv 4) de_int) (de_mul (de_mul de_int (dv 1)) (dv 1))) de_int) da_nil)) de_int) (da_cons de_int da_nil)))))))))⟩

/-! _law_cells -/
abbrev s__law_cells : Stmt := top 30
abbrev N__law_cells : List Str := ["script", "most"]
theorem sc__law_cells : FnScope N__law_cells ["script", "most"] (defScope s__law_cells) := ⟨rfl, rfl, rfl, by decide +kernel, rfl, by decide +kernel, by decide +kernel⟩
def w__law_cells (cl : Nat → Addr) (Ξ : Xp) : Ws := (wRet (wListRg (wRg1 (wCB dMax2 (wCons (wC (.int 1)) (wCons (wCB dMin2 (wCons (wVar 1) (wCons (wCB dLen (wCons (wVar 0) wNil)) wNil))) wNil))))))
def F__law_cells (cl : Nat → Addr) : Fd := mkF (pin [0, 1]) 2 (w__law_cells cl)
theorem cal__law_cells {P : Program} {w : World} {K : PySem.W.Frag} {Ts : List (Addr × Str)} {mg : Str → Option Value} {base : Heap} {cl : Nat → Addr} {fI : Addr} (G : Gx K mg cl fI) (EX : Exx P w K mg base fI) (D : Dfn K mg "_law_cells" s__law_cells none)  : CalS P w K Ts mg base 1 "_law_cells" s__law_cells ["script", "most"] (F__law_cells cl) :=
  cal_of D sc__law_cells fun f cdv hcd A outer s H E B G0 Ξ lk hr hgd => ⟨_, (dss_one (ds_ret (de_listRg rfl G.b_list (drg_1 G.b_range (de_callB (db_max2 rfl) G.b_max (by decide +kernel) (da_cons de_int (da_cons (de_callB (db_min2 rfl) G.b_min (by decide +kernel) (da_cons (dv 1) (da_cons (de_callB db_len G.b_len (by decide +kernel) (da_cons (dv 0) da_nil)) da_nil))) da_nil)))))))⟩

/-! law -/
abbrev s_law : Stmt := top 48
abbrev N_law : List Str := ["script", "place"]
theorem sc_law : FnScope N_law ["script"] (defScope s_law) := ⟨rfl, rfl, rfl, by decide +kernel, rfl, by decide +kernel, by decide +kernel⟩
def w_law (cl : Nat → Addr) (Ξ : Xp) : Ws := (wRet (wCB dAll (wCons (wLc [1] (wSeqI (wCall 2 (F__law_cells cl) noX (wCons (wVar 0) (wCons (wC (.int 3)) wNil)))) (wName 1) wYes (wCallO (F__law_right cl) noX (wCall 2 (F__law_pot cl) noX (wCons (wVar 0) (wCons (wVar 1) wNil))))) wNil)))
def F_law (cl : Nat → Addr) : Fd := mkF (pin [0]) 2 (w_law cl)
theorem cal_law {P : Program} {w : World} {K : PySem.W.Frag} {Ts : List (Addr × Str)} {mg : Str → Option Value} {base : Heap} {cl : Nat → Addr} {fI : Addr} (G : Gx K mg cl fI) (EX : Exx P w K mg base fI) (D : Dfn K mg "law" s_law none) (C__law_cells : Cal P w K Ts mg base 1 "_law_cells" ["script", "most"] (F__law_cells cl)) (C__law_pot : Cal P w K Ts mg base 1 "_law_pot" ["script", "place"] (F__law_pot cl)) (C__law_right : Cal P w K Ts mg base 9 "_law_right" ["pot"] (F__law_right cl)) : CalS P w K Ts mg base 10 "law" s_law ["script"] (F_law cl) :=
  cal_of D sc_law fun f cdv hcd A outer s H E B G0 Ξ lk hr hgd => ⟨_, (dss_one (ds_ret (de_callB (db_all rfl) G.b_all (by decide +kernel) (da_cons (de_lc (own := [("place", 1)]) (by rfl) sc_law.nd (by decide) (di_seq (by exact de_calN (KF := K) (Ts := Ts) C__law_cells (hr.mono (by decide : 1 ≤ 9)) hgd (by exact (da_cons (dv 0) (da_cons de_int da_nil))))) (blkOk_by (N := N_law) (sc := defScope s_law) (by decide +kernel)) (fun _ _ _ _ _ => (dg_name rfl sc_law.nd rfl (by first | exact Or.inl rfl | exact Or.inr rfl))) (go_name (i := 1) (by decide)) (fun _ _ _ _ _ => pts_nil) wt_yes (fun _ _ _ _ _ => (by exact de_calO (KF := K) (Ts := Ts) C__law_right (hr.mono (by decide : 9 ≤ 9)) hgd (by exact de_calN (KF := K) (Ts := Ts) C__law_pot (hr.mono (by decide : 1 ≤ 9)) hgd (by exact (da_cons (dv 0) (da_cons (dv 1) da_nil))))))) da_nil))))⟩
end Lk

set_option Elab.async false
set_option linter.all false
set_option maxRecDepth 100000
set_option maxHeartbeats 4000000
set_option exponentiation.threshold 3000
namespace DL
open PySem L2
/-! ### reckoning with slots -/
theorem backS_nb {ρ : Sl} {rs : List Rz} {as : Sl} (h : rs.all (fun r => match r with | .bor _ => false | _ => true) = true) : backS ρ rs as = ρ := by
  unfold backS
  refine List.ext_getElem? fun i => ?_
  rw [List.getElem?_mapIdx]
  cases ρ[i]? with
  | none => rfl
  | some s =>
    cases s with
    | own o =>
      have : rs.findIdx? (isBor i) = none := List.findIdx?_eq_none_iff.mpr fun r hr => by
        have := List.all_eq_true.mp h r hr
        cases r <;> first | rfl | (cases this)
      simp only [this, Option.map_some]
    | _ => rfl
theorem backS_0 {ρ as : Sl} : backS ρ [] as = ρ := backS_nb rfl
theorem backS_1 {ρ as : Sl} {a : PD} : backS ρ [.dat a] as = ρ := backS_nb rfl
theorem backS_2 {ρ as : Sl} {a b : PD} : backS ρ [.dat a, .dat b] as = ρ := backS_nb rfl
theorem backS_3 {ρ as : Sl} {a b c : PD} : backS ρ [.dat a, .dat b, .dat c] as = ρ := backS_nb rfl
theorem backS_4 {ρ as : Sl} {a b c d : PD} : backS ρ [.dat a, .dat b, .dat c, .dat d] as = ρ := backS_nb rfl
theorem backS_o {ρ : Sl} {rs : List Rz} {as : Sl} {k : Nat} {o : OD} (hk : ρ[k]? = some (.own o)) (h : rs.all (fun r => match r with | .bor _ => false | _ => true) = true) : backS ρ (.bor k :: rs) as = ρ.set k (as.getD 0 .emp) := by
  unfold backS
  refine List.ext_getElem? fun i => ?_
  rw [List.getElem?_mapIdx]
  have none_ : ∀ i, rs.findIdx? (isBor i) = none := fun i => List.findIdx?_eq_none_iff.mpr fun r hr => by
    have := List.all_eq_true.mp h r hr
    cases r <;> first | rfl | (cases this)
  by_cases hi : i = k
  · subst hi
    have hl := (List.getElem?_eq_some_iff.mp hk).1
    rw [hk, List.getElem?_set_self hl]
    have : (Rz.bor i :: rs).findIdx? (isBor i) = some 0 := by simp [List.findIdx?_cons, isBor]
    simp only [this, Option.map_some]
  · rw [List.getElem?_set_ne (Ne.symm hi)]
    cases ρ[i]? with
    | none => rfl
    | some s =>
      cases s with
      | own o =>
        have : (Rz.bor k :: rs).findIdx? (isBor i) = none := by
          rw [List.findIdx?_cons]
          have : isBor i (.bor k) = false := by unfold isBor; simp; exact fun z => hi z.symm
          rw [this, none_ i]; rfl
        simp only [this, Option.map_some]
      | _ => rfl
theorem backS_o0 {ρ as : Sl} {k : Nat} {o : OD} (hk : ρ[k]? = some (.own o)) : backS ρ [.bor k] as = ρ.set k (as.getD 0 .emp) := backS_o hk rfl
theorem backS_o1 {ρ as : Sl} {k : Nat} {o : OD} {a : PD} (hk : ρ[k]? = some (.own o)) : backS ρ [.bor k, .dat a] as = ρ.set k (as.getD 0 .emp) := backS_o hk rfl
theorem backS_o2 {ρ as : Sl} {k : Nat} {o : OD} {a b : PD} (hk : ρ[k]? = some (.own o)) : backS ρ [.bor k, .dat a, .dat b] as = ρ.set k (as.getD 0 .emp) := backS_o hk rfl
theorem backS_o3 {ρ as : Sl} {k : Nat} {o : OD} {a b c : PD} (hk : ρ[k]? = some (.own o)) : backS ρ [.bor k, .dat a, .dat b, .dat c] as = ρ.set k (as.getD 0 .emp) := backS_o hk rfl
theorem ty_non : PD.ty .non = some "NoneType" := rfl
theorem ty_bl {b : Bool} : PD.ty (.bl b) = some "bool" := rfl
theorem ty_int {i : Int} : PD.ty (.int i) = some "int" := rfl
theorem ty_str {x : Str} : PD.ty (.str x) = some "str" := rfl
theorem ty_lst {xs : List PD} : PD.ty (.lst xs) = some "list" := rfl
theorem ty_scr {ns : List Int} : PD.ty (.scr ns) = some "list" := rfl
theorem ty_tup {xs : List PD} : PD.ty (.tup xs) = some "tuple" := rfl
theorem ty_dct {ks : List (Key × PD)} : PD.ty (.dct ks) = some "dict" := rfl
theorem atI0a {α : Type} {x : α} : atI [x] 0 = some x := rfl
theorem atI0b {α : Type} {x y : α} : atI [x, y] 0 = some x := rfl
theorem atI0c {α : Type} {x y z : α} : atI [x, y, z] 0 = some x := rfl
theorem atI1b {α : Type} {x y : α} : atI [x, y] 1 = some y := rfl
theorem atI1c {α : Type} {x y z : α} : atI [x, y, z] 1 = some y := rfl
theorem atI2c {α : Type} {x y z : α} : atI [x, y, z] 2 = some z := rfl
theorem cmp_int (i : Int) : cmpOk (.int i) := ⟨rfl, rfl⟩
theorem cmp_str {s : Str} (h : PyData.strOk s = true) : cmpOk (.str s) := ⟨rfl, by simp [PD.py, SeqAt.shaped, PyData.canLay0, PyData.depth, h]⟩
theorem dEq_int {i j : Int} {k : Rz → Prop} : dEq (.int i) (.int j) k = k (.dat (.bl (decide (i = j)))) := by
  unfold dEq
  have e : PyData.eqv (PD.int i).py (PD.int j).py = decide (i = j) := by simp only [PD.py, PyData.eqv]; by_cases h : i = j <;> simp [h]
  rw [e]
  simp [cmp_int]
theorem dNeX_int {i j : Int} {k : Rz → Prop} : dNeX (.int i) (.int j) k = k (.dat (.bl (decide (i ≠ j)))) := by
  show dNe (.int i) (.int j) k = _
  unfold dNe
  have e : PyData.eqv (PD.int i).py (PD.int j).py = decide (i = j) := by simp only [PD.py, PyData.eqv]; by_cases h : i = j <;> simp [h]
  rw [e]
  simp [cmp_int]
theorem dEq_str {s t : Str} {k : Rz → Prop} (hs : PyData.strOk s = true) (ht : PyData.strOk t = true) : dEq (.str s) (.str t) k = k (.dat (.bl (decide (s = t)))) := by
  unfold dEq
  have e : PyData.eqv (PD.str s).py (PD.str t).py = decide (s = t) := by simp only [PD.py, PyData.eqv]; by_cases h : s = t <;> simp [h]
  rw [e]
  simp [cmp_str hs, cmp_str ht]
theorem dNeX_str {s t : Str} {k : Rz → Prop} (hs : PyData.strOk s = true) (ht : PyData.strOk t = true) : dNeX (.str s) (.str t) k = k (.dat (.bl (decide (s ≠ t)))) := by
  show dNe (.str s) (.str t) k = _
  unfold dNe
  have e : PyData.eqv (PD.str s).py (PD.str t).py = decide (s = t) := by simp only [PD.py, PyData.eqv]; by_cases h : s = t <;> simp [h]
  rw [e]
  simp [cmp_str hs, cmp_str ht]
/-! ### numbers within the bits that the machine bears -/
theorem bits_le (i : Int) : Builtin.Int.intBits i ≤ i.natAbs.log2 + 1 := by
  unfold Builtin.Int.intBits
  split <;> omega
theorem bits_of {i : Int} {k : Nat} (h : i.natAbs < 2 ^ k) : Builtin.Int.intBits i ≤ k + 1 := by
  have h1 := bits_le i
  have h2 : i.natAbs.log2 ≤ k := by
    by_cases h0 : i.natAbs = 0
    · rw [h0]; simp
    · exact Nat.le_of_lt ((Nat.log2_lt h0).mpr h)
  omega
/-- far below the machine's limits -/
def Sm (i : Int) : Prop := i.natAbs < 2 ^ 2000
theorem mulX {i j : Int} (h : Sm i) (h' : Sm j) : CMulX i j := by
  have h1 := bits_of h
  have h2 := bits_of h'
  unfold CMulX
  omega
theorem powX {i : Int} {j : Int} (h : Sm i) (h0 : 0 ≤ j) (h' : j ≤ 60) : CPowX i j := by
  have h1 := bits_of h
  refine ⟨h0, ?_⟩
  have h2 : (Builtin.Int.intBits i : Int) ≤ 2001 := by omega
  calc (Builtin.Int.intBits i : Int) * j ≤ 2001 * 60 := Int.mul_le_mul h2 h' h0 (by decide)
    _ ≤ 2 ^ 27 := by decide
theorem sm_big {i : Int} (h : i.natAbs < 2 ^ 128) : Sm i := Nat.lt_of_lt_of_le h (Nat.pow_le_pow_right (by decide) (by decide))
theorem log_sm {n : Int} (h : Sm n) : n.natAbs.log2 < 2000 := by
  by_cases h0 : n.natAbs = 0
  · rw [h0]; simp
  · exact (Nat.log2_lt h0).mpr h
theorem divX {i n : Int} (h0 : 0 < n) (h : Sm n) : CDivW i n := ⟨h0, by have := log_sm h; omega⟩
theorem emod_rng {x n : Int} (h : 0 < n) : 0 ≤ x % n ∧ x % n < n := ⟨Int.emod_nonneg x (by omega), Int.emod_lt_of_pos x h⟩
theorem sz {n : Nat} (h : n ≤ 100000) : n ≤ sizeLine := by rw [sizeLine_eq]; omega
theorem sz' {n : Nat} (h : n < 100000) : n < sizeLine := by rw [sizeLine_eq]; omega
theorem atI_of {α : Type} {xs : List α} {d : Int} (h0 : 0 ≤ d) (h1 : d < xs.length) : ∃ x, atI xs d = some x ∧ xs[d.toNat]? = some x := by
  have hl : d.toNat < xs.length := by omega
  refine ⟨xs[d.toNat], ?_, List.getElem?_eq_getElem hl⟩
  unfold atI ixN
  rw [if_pos h0, if_pos h1]
  exact List.getElem?_eq_getElem hl
/-! ### pots -/
/-- a pot: its cell, its mixed number, how often it was mixed -/
def PotI (m a b c : Int) : Prop := 0 ≤ a ∧ 0 ≤ b ∧ b < 2305843009213693952 ∧ 0 ≤ c ∧ c ≤ m
def Pot (m : Int) (s : SD) : Prop := ∃ a b c, s = .own (.lst [.int a, .int b, .int c]) ∧ PotI m a b c
theorem Pot.mono {m m' : Int} {s : SD} (h : Pot m s) (hm : m ≤ m') : Pot m' s := by
  obtain ⟨a, b, c, e, h1, h2, h3, h4, h5⟩ := h
  exact ⟨a, b, c, e, h1, h2, h3, h4, by omega⟩
theorem Pot.own {m : Int} {s : SD} (h : Pot m s) : ∃ o, s = .own o := by obtain ⟨a, b, c, e, _⟩ := h; exact ⟨_, e⟩
theorem primes (k : Int) (h0 : 0 ≤ k) (h1 : k < 5) : ∃ p : Int, atI [PD.int 2147483647, PD.int 2147483629, PD.int 2147483587, PD.int 2147483579, PD.int 2147483563] k = some (.int p) ∧ 0 < p ∧ p < 2147483648 := by
  have : k = 0 ∨ k = 1 ∨ k = 2 ∨ k = 3 ∨ k = 4 := by omega
  rcases this with rfl | rfl | rfl | rfl | rfl
  · exact ⟨_, rfl, by decide, by decide⟩
  · exact ⟨_, rfl, by decide, by decide⟩
  · exact ⟨_, rfl, by decide, by decide⟩
  · exact ⟨_, rfl, by decide, by decide⟩
  · exact ⟨_, rfl, by decide, by decide⟩
theorem ix0 : ixN 3 0 = some 0 := rfl
theorem ix2 : ixN 3 2 = some 2 := rfl
theorem pinned2 {x y : SD} (h : ∀ o, y ≠ .own o) : pinned (pin [0, 1]) [x, y] := fun i o e => by
  match i, e with
  | 0, _ => rfl
  | 1, e => cases e; exact absurd rfl (h o)
theorem pinned1 {x : SD} : pinned (pin [0]) [x] := fun i o e => by
  match i, e with
  | 0, _ => rfl
def wTake (A B : Int) : Ws := (wSeq (wIfS (wB (wBin (dI0 fun i j => .bl (decide (j < i))) (wBin dIx (wVar 0) (wC (.int 0))) (wC (.int 0)))) (wSeq (wSetF 4 (wBin (dI CPos fun i j => .int (i % j)) (wCB dInt (wCons (wBin dIx (wVar 0) (wC (.int 0))) wNil)) (wVar 1)))
  (wSeq (wSetIx 0 (wBin (dI CDivW fun i j => .int (i / j)) (wBin dIx (wVar 0) (wC (.int 0))) (wVar 1)) (wC (.int 0)))
  (wRet (wVar 4)))) wNext)
  (wSeq (wSetIx 0 (wBin dAdd (wBin dIx (wVar 0) (wC (.int 2))) (wC (.int 1))) (wC (.int 2)))
  (wSeq (wSetF 2 (wBin dIx (wLst (wCons (wC (.int 2147483647)) (wCons (wC (.int 2147483629)) (wCons (wC (.int 2147483587)) (wCons (wC (.int 2147483579)) (wCons (wC (.int 2147483563)) wNil)))))) (wBin (dI CPos fun i j => .int (i % j)) (wCB dInt (wCons (wBin dIx (wVar 0) (wC (.int 2))) wNil)) (wC (.int 5)))))
  (wSeq (wSetF 3 (wBin (dI CPos fun i j => .int (i % j)) (wCB dInt (wCons (wBin (dI CPowX fun i j => .int (i ^ j.toNat)) (wCB dInt (wCons (wBin dAdd (wBin dAdd (wBin dIx (wVar 0) (wC (.int 1))) (wBin (dI CMulX fun i j => .int (i * j)) (wBin (dI CMulX fun i j => .int (i * j)) (wC (.int A)) (wBin dIx (wVar 0) (wC (.int 2)))) (wBin dIx (wVar 0) (wC (.int 2))))) (wC (.int B))) wNil)) (wC (.int 3))) wNil)) (wVar 2)))
  (wSeq (wSetF 3 (wBin (dI CPos fun i j => .int (i % j)) (wCB dInt (wCons (wBin (dI CMulX fun i j => .int (i * j)) (wVar 3) (wBin dAdd (wBin (dI CPos fun i j => .int (i % j)) (wCB dInt (wCons (wVar 3) wNil)) (wC (.int 10009))) (wBin (dI CMulX fun i j => .int (i * j)) (wC (.int 89)) (wBin dIx (wVar 0) (wC (.int 2)))))) wNil)) (wC (.int 2305843009213693907))))
  (wRet (wBin (dI CPos fun i j => .int (i % j)) (wCB dInt (wCons (wBin (dI CDivW fun i j => .int (i / j)) (wVar 3) (wC (.int 173))) wNil)) (wVar 1))))))))
def FTake (A B : Int) : Fd := mkF (pin [0, 1]) 5 (fun _ => wTake A B)
/-- the numbers of a pot are small -/
def AB (A B : Int) : Prop := 0 ≤ A ∧ A ≤ 1000000 ∧ 0 ≤ B ∧ B ≤ 1000000
def wOf (A B : Int) : Ws := (wRet (wBin dIx (wVar 1) (wCall 2 (FTake A B) noX (wCons (wVar 0) (wCons (wCB dLen (wCons (wVar 1) wNil)) wNil)))))
def FOf (A B : Int) : Fd := mkF (pin [0, 1]) 2 (fun _ => wOf A B)
end DL

set_option Elab.async false
set_option linter.all false
set_option maxRecDepth 100000
set_option maxHeartbeats 4000000
set_option exponentiation.threshold 3000
namespace DL
open PySem L2
def wPot (M1 C1 M2 M3 C2 : Int) : Ws := (wSeq (wSetF 2 (wIf (wB (wBin (dI0 fun i j => .bl (decide (i < j))) (wVar 1) (wCB dLen (wCons (wVar 0) wNil)))) (wBin dIx (wVar 0) (wVar 1)) (wBin dAdd (wBin dAdd (wBin (dI CPos fun i j => .int (i % j)) (wCB dSum (wCons (wSl (wVar 0) wNoPart (wPart (wC (.int 1)))) wNil)) (wC (.int 1000003))) (wBin (dI CMulX fun i j => .int (i * j)) (wC (.int M1)) (wVar 1))) (wC (.int C1)))))
  (wSeq (wSetF 3 (wBin (dI CMulX fun i j => .int (i * j)) (wBin (dI CPos fun i j => .int (i % j)) (wCB dInt (wCons (wCB dAbs (wCons (wVar 2) wNil)) wNil)) (wBin (dI CPowX fun i j => .int (i ^ j.toNat)) (wBin (dI CPowX fun i j => .int (i ^ j.toNat)) (wC (.int 10)) (wC (.int 60))) (wC (.int 5)))) (wCB dInt (wCons (wBin (dI0 fun i j => .bl (decide (j ≤ i))) (wCB dAbs (wCons (wVar 2) wNil)) (wBin (dI CPowX fun i j => .int (i ^ j.toNat)) (wC (.int 10)) (wC (.int 18)))) wNil))))
  (wSeq (wSetF 4 (wBin (dI CPos fun i j => .int (i % j)) (wCB dInt (wCons (wVar 2) wNil)) (wC (.int 2305843009213693951))))
  (wRet (wLst (wCons (wVar 3) (wCons (wBin (dI CPos fun i j => .int (i % j)) (wCB dInt (wCons (wBin dAdd (wBin dAdd (wBin (dI CMulX fun i j => .int (i * j)) (wVar 4) (wC (.int M2))) (wBin (dI CMulX fun i j => .int (i * j)) (wBin (dI CMulX fun i j => .int (i * j)) (wC (.int M3)) (wVar 1)) (wVar 1))) (wC (.int C2))) wNil)) (wC (.int 2305843009213693921))) (wCons (wC (.int 0)) wNil))))))))
def FPot (M1 C1 M2 M3 C2 : Int) : Fd := mkF (pin [0, 1]) 5 (fun _ => wPot M1 C1 M2 M3 C2)
def PC (M1 C1 M2 M3 C2 : Int) : Prop := (0 ≤ M1 ∧ M1 ≤ 1000000) ∧ (0 ≤ C1 ∧ C1 ≤ 1000000) ∧ (0 ≤ M2 ∧ M2 ≤ 1000000) ∧ (0 ≤ M3 ∧ M3 ≤ 1000000) ∧ (0 ≤ C2 ∧ C2 ≤ 1000000)
theorem pot_ok {M1 C1 M2 M3 C2 : Int} {ns : List Int} {p : Int} {Q : Rz → Sl → Prop} {Ξ : Xp} (hP : PC M1 C1 M2 M3 C2) (h0 : 0 ≤ p) (h2 : p ≤ 100)
    (h : ∀ s o as, s = SD.own o → Pot 0 s → Q (.own o) as) : FPot M1 C1 M2 M3 C2 [.dat (.scr ns), .dat (.int p)] Q Ξ := by
  obtain ⟨⟨p1, p2⟩, ⟨c1, c2⟩, ⟨m1, m2⟩, ⟨m3, m4⟩, ⟨e1, e2⟩⟩ := hP
  unfold FPot mkF
  refine ⟨pinned2 (fun o z => by cases z), ?_⟩
  have small : ∀ {x y : Int}, 0 ≤ x → x ≤ 1000000 → 0 ≤ y → y ≤ 1000000 → 0 ≤ x * y ∧ x * y ≤ 1000000000000 := fun {x y} a b c d => ⟨Int.mul_nonneg a c, by
    calc x * y ≤ 1000000 * 1000000 := Int.mul_le_mul b d c (by decide)
      _ = 1000000000000 := by decide⟩
  have tail : ∀ z : Int, (wSeq (wSetF 3 (wBin (dI CMulX fun i j => .int (i * j)) (wBin (dI CPos fun i j => .int (i % j)) (wCB dInt (wCons (wCB dAbs (wCons (wVar 2) wNil)) wNil)) (wBin (dI CPowX fun i j => .int (i ^ j.toNat)) (wBin (dI CPowX fun i j => .int (i ^ j.toNat)) (wC (.int 10)) (wC (.int 60))) (wC (.int 5)))) (wCB dInt (wCons (wBin (dI0 fun i j => .bl (decide (j ≤ i))) (wCB dAbs (wCons (wVar 2) wNil)) (wBin (dI CPowX fun i j => .int (i ^ j.toNat)) (wC (.int 10)) (wC (.int 18)))) wNil))))
  (wSeq (wSetF 4 (wBin (dI CPos fun i j => .int (i % j)) (wCB dInt (wCons (wVar 2) wNil)) (wC (.int 2305843009213693951))))
  (wRet (wLst (wCons (wVar 3) (wCons (wBin (dI CPos fun i j => .int (i % j)) (wCB dInt (wCons (wBin dAdd (wBin dAdd (wBin (dI CMulX fun i j => .int (i * j)) (wVar 4) (wC (.int M2))) (wBin (dI CMulX fun i j => .int (i * j)) (wBin (dI CMulX fun i j => .int (i * j)) (wC (.int M3)) (wVar 1)) (wVar 1))) (wC (.int C2))) wNil)) (wC (.int 2305843009213693921))) (wCons (wC (.int 0)) wNil))))))) { nx := fun ρ => Q (.dat .non) (fin (pin [0, 1]) [.dat (.scr ns), .dat (.int p)] ρ), rt := fun r ρ => leave (pin [0, 1]) 2 r ρ fun r ρ => Q r (fin (pin [0, 1]) [.dat (.scr ns), .dat (.int p)] ρ) } [.dat (.scr ns), .dat (.int p), .dat (.int z), .emp, .emp] := fun z => by
    simp only [wSeq, wSetF, wSet, wRet, wB, wBin, wUn, wCB, wCons, wNil, wVar, wC, dI, dI0, dInt, dAbs, dAdd, look, looks, ok, Rz.pd, SD.pd, OD.pd, Rz.cold, Rz.cool, warm, pdsOf, frz, frzAll, List.length_cons, List.length_nil, Nat.reduceAdd, List.getElem?_cons_zero, List.getElem?_cons_succ, Option.bind_some, List.set_cons_zero, List.set_cons_succ, true_or, or_true, true_and, wLst, leave]
    have e5 : (((10 : Int) ^ Int.toNat 60) ^ Int.toNat 5) < 2 ^ 1000 := by decide +kernel
    have e0 : (0 : Int) < (((10 : Int) ^ Int.toNat 60) ^ Int.toNat 5) := by decide +kernel
    have b10 : Sm ((10 : Int) ^ Int.toNat 60) := by unfold Sm; decide +kernel
    generalize hM : (((10 : Int) ^ Int.toNat 60) ^ Int.toNat 5) = M at e5 e0 ⊢
    generalize (if z < 0 then -z else z) = y
    generalize hg : (if decide ((10 : Int) ^ Int.toNat 18 ≤ y) = true then (1 : Int) else 0) = g
    have hg' : g = 0 ∨ g = 1 := by
      rw [← hg]
      split
      · exact .inr rfl
      · exact .inl rfl
    obtain ⟨u0, u1⟩ := emod_rng (x := y) e0
    have bu : Sm (y % M) := by
      have h1 : y % M < 2 ^ 1000 := Int.lt_trans u1 e5
      have h2 : (2 : Nat) ^ 1000 < 2 ^ 2000 := by decide +kernel
      have h3 : ((y % M).natAbs : Int) = y % M := Int.natAbs_of_nonneg u0
      have h4 : (y % M).natAbs < 2 ^ 1000 := by
        have : ((y % M).natAbs : Int) < ((2 ^ 1000 : Nat) : Int) := by rw [h3]; exact Int.lt_of_lt_of_le h1 (by decide +kernel)
        exact Int.ofNat_lt.mp this
      exact Nat.lt_trans h4 h2
    have bg : Sm g := sm_big (by rcases hg' with e | e <;> (rw [e]; decide))
    obtain ⟨v0, v1⟩ := emod_rng (x := z) (n := 2305843009213693951) (by decide)
    obtain ⟨w0, w1⟩ := emod_rng (x := z % 2305843009213693951 * M2 + M3 * p * p + C2) (n := 2305843009213693921) (by decide)
    obtain ⟨s0, s1⟩ := small m3 m4 h0 (by omega : p ≤ 1000000)
    refine ⟨powX (sm_big (by decide)) (by decide) (by decide), powX b10 (by decide) (by decide), e0, powX (sm_big (by decide)) (by decide) (by decide), mulX bu bg, by unfold CPos; decide, mulX (sm_big (by omega)) (sm_big (by omega)), mulX (sm_big (by omega)) (sm_big (by omega)), mulX (sm_big (by omega)) (sm_big (by omega)), by unfold CPos; decide, by rw [sizeLine_eq]; decide, ?_⟩
    refine h _ _ _ rfl ⟨_, _, _, rfl, ?_, w0, by omega, by decide, by decide⟩
    rcases hg' with e | e <;> rw [e]
    · omega
    · omega
  unfold wPot
  simp only [List.length_cons, List.length_nil, Nat.reduceAdd, Nat.reduceSub, List.replicate, List.cons_append, List.nil_append]
  by_cases hp : p < ns.length
  · obtain ⟨z, hat, hz⟩ := atI_of (xs := ns) h0 hp
    have := tail z
    rw [wSeq, wSetF]
    simp only [wIf, wB, wBin, wCB, wCons, wNil, wVar, wC, dI, dI0, dIx, dLen, look, looks, ok, Rz.pd, SD.pd, OD.pd, Rz.cold, Rz.cool, warm, pdsOf, frz, frzAll, List.getElem?_cons_zero, List.getElem?_cons_succ, Option.bind_some, List.set_cons_zero, List.set_cons_succ, true_or, true_and, decide_eq_true hp, hat]
    exact this
  · have := tail ((cutP ns none (some 1)).sum % 1000003 + M1 * p + C1)
    rw [wSeq, wSetF]
    simp only [wIf, wB, wBin, wCB, wCons, wNil, wVar, wC, wSl, wNoPart, wPart, dSl, dSum, dAdd, dI, dI0, dIx, dLen, look, looks, ok, Rz.pd, SD.pd, OD.pd, Rz.cold, Rz.cool, warm, pdsOf, frz, frzAll, List.getElem?_cons_zero, List.getElem?_cons_succ, Option.bind_some, List.set_cons_zero, List.set_cons_succ, true_or, true_and, decide_eq_false hp, intsOf_map]
    refine ⟨.inr ⟨_, rfl⟩, by unfold CPos; decide, mulX (sm_big (by omega)) (sm_big (by omega)), ?_⟩
    exact this
def wCells : Ws := (wRet (wListRg (wRg1 (wCB dMax2 (wCons (wC (.int 1)) (wCons (wCB dMin2 (wCons (wVar 1) (wCons (wCB dLen (wCons (wVar 0) wNil)) wNil))) wNil))))))
def FCells : Fd := mkF (pin [0, 1]) 2 (fun _ => wCells)
theorem cells_ok {ns : List Int} {m : Int} {Q : Rz → Sl → Prop} {Ξ : Xp} (hm : 1 ≤ m ∧ m ≤ 100) (h : ∀ n : Nat, 1 ≤ n → (n : Int) ≤ m → Q (.own (.lst (rgP 0 n))) [.dat (.scr ns), .dat (.int m)]) : FCells [.dat (.scr ns), .dat (.int m)] Q Ξ := by
  unfold FCells mkF
  refine ⟨pinned2 (fun o z => by cases z), ?_⟩
  simp only [wCells, wRet, wListRg, wRg1, wCB, wCons, wNil, wVar, wC, dMax2, dMin2, dLen, look, looks, ok, Rz.pd, SD.pd, Rz.cold, Rz.cool, warm, pdsOf, List.length_cons, List.length_nil, Nat.reduceAdd, Nat.reduceSub, List.replicate, List.cons_append, List.nil_append, List.getElem?_cons_zero, List.getElem?_cons_succ, Option.bind_some, true_or, true_and, leave]
  generalize hk : (if (if (ns.length : Int) < m then (ns.length : Int) else m) > 1 then if (ns.length : Int) < m then (ns.length : Int) else m else 1) = k
  have h1 : 1 ≤ k ∧ k ≤ m := by
    rw [← hk]
    split <;> split <;> omega
  refine ⟨RgOk.of_le (by decide) (by omega) (by decide) (by omega), ?_⟩
  have := h (k - 0).toNat (by omega) (by omega)
  exact this
/-- a right made of each cell's pot -/
def RightOk (F : Fd) : Prop := ∀ (s : SD) (Q : Rz → Sl → Prop), Pot 0 s → (∀ as, Q (.dat (.bl true)) as) → F [s] Q noX
def wLawA (n : Int) (Fp Fr : Fd) : Ws := (wRet (wCB dAll (wCons (wLc [1] (wSeqI (wCall 2 FCells noX (wCons (wVar 0) (wCons (wC (.int n)) wNil)))) (wName 1) wYes (wCallO Fr noX (wCall 2 Fp noX (wCons (wVar 0) (wCons (wVar 1) wNil))))) wNil)))
theorem bools_rep : ∀ n : Nat, bools (List.replicate n (.bl true)) = some (List.replicate n true)
  | 0 => rfl
  | n + 1 => by
    show (match bools (List.replicate n (.bl true)) with | some ns => some (true :: ns) | none => none) = _
    rw [bools_rep n]; rfl
theorem all_rep (n : Nat) : (List.replicate n true).all id = true := by simp [List.all_replicate]
theorem lawA_ok {M1 C1 M2 M3 C2 n : Int} {Fr : Fd} {ns : List Int} (hP : PC M1 C1 M2 M3 C2) (hn : 1 ≤ n ∧ n ≤ 100) (hR : RightOk Fr) : mkF (pin [0]) 2 (fun _ => wLawA n (FPot M1 C1 M2 M3 C2) Fr) [.dat (.scr ns)] (fun r _ => r = .dat (.bl true)) noX := by
  unfold mkF
  refine ⟨pinned1, ?_⟩
  have loop : ∀ (m k : Nat) (s : SD) (Q : List PD → Sl → Prop), ((k + m : Nat) : Int) ≤ 100 → Q (List.replicate (k + m) (.bl true)) [.dat (.scr ns), .emp] →
      compL [1] (wName 1) wYes (wCallO Fr noX (wCall 2 (FPot M1 C1 M2 M3 C2) noX (wCons (wVar 0) (wCons (wVar 1) wNil)))) ((List.range' k m).map fun i => PD.int (0 + (i : Nat))) (List.replicate k (.bl true)) Q [.dat (.scr ns), .emp] := by
    intro m
    induction m with
    | zero => intro k s Q hk h; exact h
    | succ m ih =>
      intro k s Q hk h
      rw [List.range'_succ, List.map_cons]
      simp only [compL, wName, wYes, wCallO, wCall, wCons, wNil, wVar, Rz.cold, Rz.cool, warm, true_or, true_and, List.set_cons_zero, List.set_cons_succ, List.getElem?_cons_zero, List.getElem?_cons_succ, List.length_cons, List.length_nil, Nat.reduceAdd, onceB, newBor, Bool.and_self, List.map_cons, List.map_nil, argOf]
      refine pot_ok hP (by omega) (by omega) fun sp o as eo hp => ?_
      subst eo
      refine hR _ _ hp fun as' => ?_
      simp only [frz, frzAll, ok]
      refine ⟨.inl trivial, by rw [List.length_replicate]; exact sz' (by omega), ?_⟩
      have e : List.replicate k (PD.bl true) ++ [.bl true] = List.replicate (k + 1) (.bl true) := by rw [List.replicate_succ']
      rw [e]
      have : k + (m + 1) = (k + 1) + m := by omega
      rw [this] at h hk
      exact ih (k + 1) .emp Q hk h
  unfold wLawA
  simp only [wRet, wCB, wCons, wNil, wVar, wC, wLc, wSeqI, wCall, Rz.cold, Rz.cool, warm, true_or, true_and, List.length_cons, List.length_nil, Nat.reduceAdd, Nat.reduceSub, List.replicate, List.cons_append, List.nil_append, List.getElem?_cons_zero, List.getElem?_cons_succ, onceB, newBor, Bool.and_self, List.map_cons, List.map_nil, argOf]
  refine cells_ok hn fun j h1 h3 => ?_
  refine And.intro (Or.inr ⟨_, rfl⟩) ?_
  have e : rgP 0 j = (List.range' 0 j).map fun i => PD.int (0 + (i : Nat)) := by unfold rgP; rw [List.range_eq_range']
  show noOwn [.dat (.scr ns), .emp] [1] = true ∧ compL [1] (wName 1) wYes _ (rgP 0 j) [] _ [.dat (.scr ns), .emp]
  rw [e]
  refine ⟨rfl, loop j 0 .emp _ (by omega) ?_⟩
  rw [Nat.zero_add]
  refine And.intro (Or.inr ⟨_, rfl⟩) ?_
  show ok ((bools (List.replicate j (.bl true)))) _
  rw [bools_rep]
  simp only [ok, leave, all_rep]
end DL

set_option Elab.async false
set_option linter.all false
set_option maxRecDepth 100000
set_option maxHeartbeats 4000000
set_option exponentiation.threshold 3000
namespace DL
open PySem L2
/-! ### defs of the program that many laws reach -/
/-- a kind that isinstance knows -/
def Kd (d : PD) : Prop := ∃ t, d.ty = some t
def isNum : PD → Bool
  | .int _ => true
  | _ => false
def within (d : PD) (lo hi : Int) : Bool := match d with
  | .int i => decide (lo ≤ i) && decide (i ≤ hi)
  | _ => false
def wIsNumber : Ws := (wRet (wAndV (wIsi "int" (wVar 0)) (wNotV (wIsi "bool" (wVar 0)))))
def FIsNumber : Fd := mkF (pin [0]) 1 (fun _ => wIsNumber)
theorem isNumber_ok {d : PD} {Q : Rz → Sl → Prop} {Ξ : Xp} (hd : Kd d) (h : Q (.dat (.bl (isNum d))) [.dat d]) : FIsNumber [.dat d] Q Ξ := by
  unfold FIsNumber mkF
  refine ⟨pinned1, ?_⟩
  obtain ⟨t, ht⟩ := hd
  cases d <;> first
    | (cases ht; done)
    | (simp only [wIsNumber, wSeq, wNext, wIfS, wSetF, wSet, into, wSetIx, wRet, wRetN, wDrop, wB, wBin, wUn, wCB, wCons, wNil, wVar, wC, wIf, wAnd, wOr, wNot, wAndV, wOrV, wNotV, wTup, wLst, wSl, wNoPart, wPart, wChain, wUnp, wgTup, wgCons, wgNil, wName, wIsi, wListRg, wRg1, wRg2, wTupRg, wPuts, puts, Rz.sd, wConsH, wAppend, wExtend, ownL, dI, dI0, dIx, dInt, dAbs, dLen, dMax2, dMin2, dSum, dAll, dAny, dList, dTuple, dAdd, dNeg, dIsN, dNotN, PD.isN, dSl, look, looks, ok, Rz.pd, SD.pd, OD.pd, Rz.cold, Rz.cool, warm, pdsOf, frz, frzAll, leave, argOf, onceB, newBor, isBor, ty_non, ty_bl, ty_int, ty_str, ty_lst, ty_scr, ty_tup, ty_dct, isa, String.reduceBEq, beq_self_eq_true, Bool.false_and, Bool.and_false, Bool.not_true, Bool.or_self, wYes, wCall, backS_0, backS_1, backS_2, backS_3, backS_4, backS_o0, backS_o1, backS_o2, backS_o3, dEq_int, dEq_str, dNeX_int, dNeX_str, List.length_cons, List.length_nil, List.cons_append, List.nil_append, List.replicate, Nat.reduceAdd, Nat.reduceSub, List.getElem?_cons_zero, List.getElem?_cons_succ, Option.bind_some, List.set_cons_zero, List.set_cons_succ, List.map_cons, List.map_nil, List.any_cons, List.any_nil, List.getD_cons_zero, List.getD_cons_succ, true_or, or_true, true_and, and_true, Bool.and_true, Bool.true_and, Bool.or_false, Bool.false_or, Bool.not_false, Bool.not_true, Bool.or_true, Bool.true_or, decide_true, decide_false, wFor, wRng1, wRng2, wLc, wSeqI, items, wEnumX, wCallO, wNever, noOwn, List.all_cons, List.all_nil, wipeS, Bool.and_self, decide_eq_true_eq, atI0a, atI0b, atI0c, atI1b, atI1c, atI2c]; exact h)
def wIsWithin : Ws := (wRet (wAndV (wCall 1 FIsNumber noX (wCons (wVar 0) wNil)) (wChain (dI0 fun i j => .bl (decide (i ≤ j))) (dI0 fun i j => .bl (decide (i ≤ j))) (wVar 1) (wVar 0) (wVar 2))))
def FIsWithin : Fd := mkF (pin [0, 1, 2]) 3 (fun _ => wIsWithin)
theorem pinnedD {xs : List PD} {T : Nat → Bool} : pinned T (xs.map SD.dat) := fun i o e => by
  rw [List.getElem?_map] at e
  cases h : xs[i]? with
  | none => rw [h] at e; cases e
  | some x => rw [h] at e; cases e
theorem isWithin_ok {d : PD} {lo hi : Int} {Q : Rz → Sl → Prop} {Ξ : Xp} (hd : Kd d) (h : Q (.dat (.bl (within d lo hi))) [.dat d, .dat (.int lo), .dat (.int hi)]) : FIsWithin [.dat d, .dat (.int lo), .dat (.int hi)] Q Ξ := by
  unfold FIsWithin mkF
  refine ⟨pinnedD (xs := [d, .int lo, .int hi]), ?_⟩
  simp only [wIsWithin, wSeq, wNext, wIfS, wSetF, wSet, into, wSetIx, wRet, wRetN, wDrop, wB, wBin, wUn, wCB, wCons, wNil, wVar, wC, wIf, wAnd, wOr, wNot, wAndV, wOrV, wNotV, wTup, wLst, wSl, wNoPart, wPart, wChain, wUnp, wgTup, wgCons, wgNil, wName, wIsi, wListRg, wRg1, wRg2, wTupRg, wPuts, puts, Rz.sd, wConsH, wAppend, wExtend, ownL, dI, dI0, dIx, dInt, dAbs, dLen, dMax2, dMin2, dSum, dAll, dAny, dList, dTuple, dAdd, dNeg, dIsN, dNotN, PD.isN, dSl, look, looks, ok, Rz.pd, SD.pd, OD.pd, Rz.cold, Rz.cool, warm, pdsOf, frz, frzAll, leave, argOf, onceB, newBor, isBor, ty_non, ty_bl, ty_int, ty_str, ty_lst, ty_scr, ty_tup, ty_dct, isa, String.reduceBEq, beq_self_eq_true, Bool.false_and, Bool.and_false, Bool.not_true, Bool.or_self, wYes, wCall, backS_0, backS_1, backS_2, backS_3, backS_4, backS_o0, backS_o1, backS_o2, backS_o3, dEq_int, dEq_str, dNeX_int, dNeX_str, List.length_cons, List.length_nil, List.cons_append, List.nil_append, List.replicate, Nat.reduceAdd, Nat.reduceSub, List.getElem?_cons_zero, List.getElem?_cons_succ, Option.bind_some, List.set_cons_zero, List.set_cons_succ, List.map_cons, List.map_nil, List.any_cons, List.any_nil, List.getD_cons_zero, List.getD_cons_succ, true_or, or_true, true_and, and_true, Bool.and_true, Bool.true_and, Bool.or_false, Bool.false_or, Bool.not_false, Bool.not_true, Bool.or_true, Bool.true_or, decide_true, decide_false, wFor, wRng1, wRng2, wLc, wSeqI, items, wEnumX, wCallO, wNever, noOwn, List.all_cons, List.all_nil, wipeS, Bool.and_self, decide_eq_true_eq, atI0a, atI0b, atI0c, atI1b, atI1c, atI2c]
  refine isNumber_ok hd ?_
  cases d with
  | int i =>
    simp only [isNum, wSeq, wNext, wIfS, wSetF, wSet, into, wSetIx, wRet, wRetN, wDrop, wB, wBin, wUn, wCB, wCons, wNil, wVar, wC, wIf, wAnd, wOr, wNot, wAndV, wOrV, wNotV, wTup, wLst, wSl, wNoPart, wPart, wChain, wUnp, wgTup, wgCons, wgNil, wName, wIsi, wListRg, wRg1, wRg2, wTupRg, wPuts, puts, Rz.sd, wConsH, wAppend, wExtend, ownL, dI, dI0, dIx, dInt, dAbs, dLen, dMax2, dMin2, dSum, dAll, dAny, dList, dTuple, dAdd, dNeg, dIsN, dNotN, PD.isN, dSl, look, looks, ok, Rz.pd, SD.pd, OD.pd, Rz.cold, Rz.cool, warm, pdsOf, frz, frzAll, leave, argOf, onceB, newBor, isBor, ty_non, ty_bl, ty_int, ty_str, ty_lst, ty_scr, ty_tup, ty_dct, isa, String.reduceBEq, beq_self_eq_true, Bool.false_and, Bool.and_false, Bool.not_true, Bool.or_self, wYes, wCall, backS_0, backS_1, backS_2, backS_3, backS_4, backS_o0, backS_o1, backS_o2, backS_o3, dEq_int, dEq_str, dNeX_int, dNeX_str, List.length_cons, List.length_nil, List.cons_append, List.nil_append, List.replicate, Nat.reduceAdd, Nat.reduceSub, List.getElem?_cons_zero, List.getElem?_cons_succ, Option.bind_some, List.set_cons_zero, List.set_cons_succ, List.map_cons, List.map_nil, List.any_cons, List.any_nil, List.getD_cons_zero, List.getD_cons_succ, true_or, or_true, true_and, and_true, Bool.and_true, Bool.true_and, Bool.or_false, Bool.false_or, Bool.not_false, Bool.not_true, Bool.or_true, Bool.true_or, decide_true, decide_false, wFor, wRng1, wRng2, wLc, wSeqI, items, wEnumX, wCallO, wNever, noOwn, List.all_cons, List.all_nil, wipeS, Bool.and_self, decide_eq_true_eq, atI0a, atI0b, atI0c, atI1b, atI1c, atI2c]
    by_cases h1 : lo ≤ i
    · simp only [decide_eq_true h1, wSeq, wNext, wIfS, wSetF, wSet, into, wSetIx, wRet, wRetN, wDrop, wB, wBin, wUn, wCB, wCons, wNil, wVar, wC, wIf, wAnd, wOr, wNot, wAndV, wOrV, wNotV, wTup, wLst, wSl, wNoPart, wPart, wChain, wUnp, wgTup, wgCons, wgNil, wName, wIsi, wListRg, wRg1, wRg2, wTupRg, wPuts, puts, Rz.sd, wConsH, wAppend, wExtend, ownL, dI, dI0, dIx, dInt, dAbs, dLen, dMax2, dMin2, dSum, dAll, dAny, dList, dTuple, dAdd, dNeg, dIsN, dNotN, PD.isN, dSl, look, looks, ok, Rz.pd, SD.pd, OD.pd, Rz.cold, Rz.cool, warm, pdsOf, frz, frzAll, leave, argOf, onceB, newBor, isBor, ty_non, ty_bl, ty_int, ty_str, ty_lst, ty_scr, ty_tup, ty_dct, isa, String.reduceBEq, beq_self_eq_true, Bool.false_and, Bool.and_false, Bool.not_true, Bool.or_self, wYes, wCall, backS_0, backS_1, backS_2, backS_3, backS_4, backS_o0, backS_o1, backS_o2, backS_o3, dEq_int, dEq_str, dNeX_int, dNeX_str, List.length_cons, List.length_nil, List.cons_append, List.nil_append, List.replicate, Nat.reduceAdd, Nat.reduceSub, List.getElem?_cons_zero, List.getElem?_cons_succ, Option.bind_some, List.set_cons_zero, List.set_cons_succ, List.map_cons, List.map_nil, List.any_cons, List.any_nil, List.getD_cons_zero, List.getD_cons_succ, true_or, or_true, true_and, and_true, Bool.and_true, Bool.true_and, Bool.or_false, Bool.false_or, Bool.not_false, Bool.not_true, Bool.or_true, Bool.true_or, decide_true, decide_false, wFor, wRng1, wRng2, wLc, wSeqI, items, wEnumX, wCallO, wNever, noOwn, List.all_cons, List.all_nil, wipeS, Bool.and_self, decide_eq_true_eq, atI0a, atI0b, atI0c, atI1b, atI1c, atI2c]
      have e : within (.int i) lo hi = decide (i ≤ hi) := by simp only [within, decide_eq_true h1, Bool.true_and]
      rw [e] at h; exact h
    · simp only [decide_eq_false h1, wSeq, wNext, wIfS, wSetF, wSet, into, wSetIx, wRet, wRetN, wDrop, wB, wBin, wUn, wCB, wCons, wNil, wVar, wC, wIf, wAnd, wOr, wNot, wAndV, wOrV, wNotV, wTup, wLst, wSl, wNoPart, wPart, wChain, wUnp, wgTup, wgCons, wgNil, wName, wIsi, wListRg, wRg1, wRg2, wTupRg, wPuts, puts, Rz.sd, wConsH, wAppend, wExtend, ownL, dI, dI0, dIx, dInt, dAbs, dLen, dMax2, dMin2, dSum, dAll, dAny, dList, dTuple, dAdd, dNeg, dIsN, dNotN, PD.isN, dSl, look, looks, ok, Rz.pd, SD.pd, OD.pd, Rz.cold, Rz.cool, warm, pdsOf, frz, frzAll, leave, argOf, onceB, newBor, isBor, ty_non, ty_bl, ty_int, ty_str, ty_lst, ty_scr, ty_tup, ty_dct, isa, String.reduceBEq, beq_self_eq_true, Bool.false_and, Bool.and_false, Bool.not_true, Bool.or_self, wYes, wCall, backS_0, backS_1, backS_2, backS_3, backS_4, backS_o0, backS_o1, backS_o2, backS_o3, dEq_int, dEq_str, dNeX_int, dNeX_str, List.length_cons, List.length_nil, List.cons_append, List.nil_append, List.replicate, Nat.reduceAdd, Nat.reduceSub, List.getElem?_cons_zero, List.getElem?_cons_succ, Option.bind_some, List.set_cons_zero, List.set_cons_succ, List.map_cons, List.map_nil, List.any_cons, List.any_nil, List.getD_cons_zero, List.getD_cons_succ, true_or, or_true, true_and, and_true, Bool.and_true, Bool.true_and, Bool.or_false, Bool.false_or, Bool.not_false, Bool.not_true, Bool.or_true, Bool.true_or, decide_true, decide_false, wFor, wRng1, wRng2, wLc, wSeqI, items, wEnumX, wCallO, wNever, noOwn, List.all_cons, List.all_nil, wipeS, Bool.and_self, decide_eq_true_eq, atI0a, atI0b, atI0c, atI1b, atI1c, atI2c]
      have e : within (.int i) lo hi = false := by simp only [within, decide_eq_false h1, Bool.false_and]
      rw [e] at h; exact h
  | _ => simp only [isNum, wSeq, wNext, wIfS, wSetF, wSet, into, wSetIx, wRet, wRetN, wDrop, wB, wBin, wUn, wCB, wCons, wNil, wVar, wC, wIf, wAnd, wOr, wNot, wAndV, wOrV, wNotV, wTup, wLst, wSl, wNoPart, wPart, wChain, wUnp, wgTup, wgCons, wgNil, wName, wIsi, wListRg, wRg1, wRg2, wTupRg, wPuts, puts, Rz.sd, wConsH, wAppend, wExtend, ownL, dI, dI0, dIx, dInt, dAbs, dLen, dMax2, dMin2, dSum, dAll, dAny, dList, dTuple, dAdd, dNeg, dIsN, dNotN, PD.isN, dSl, look, looks, ok, Rz.pd, SD.pd, OD.pd, Rz.cold, Rz.cool, warm, pdsOf, frz, frzAll, leave, argOf, onceB, newBor, isBor, ty_non, ty_bl, ty_int, ty_str, ty_lst, ty_scr, ty_tup, ty_dct, isa, String.reduceBEq, beq_self_eq_true, Bool.false_and, Bool.and_false, Bool.not_true, Bool.or_self, wYes, wCall, backS_0, backS_1, backS_2, backS_3, backS_4, backS_o0, backS_o1, backS_o2, backS_o3, dEq_int, dEq_str, dNeX_int, dNeX_str, List.length_cons, List.length_nil, List.cons_append, List.nil_append, List.replicate, Nat.reduceAdd, Nat.reduceSub, List.getElem?_cons_zero, List.getElem?_cons_succ, Option.bind_some, List.set_cons_zero, List.set_cons_succ, List.map_cons, List.map_nil, List.any_cons, List.any_nil, List.getD_cons_zero, List.getD_cons_succ, true_or, or_true, true_and, and_true, Bool.and_true, Bool.true_and, Bool.or_false, Bool.false_or, Bool.not_false, Bool.not_true, Bool.or_true, Bool.true_or, decide_true, decide_false, wFor, wRng1, wRng2, wLc, wSeqI, items, wEnumX, wCallO, wNever, noOwn, List.all_cons, List.all_nil, wipeS, Bool.and_self, decide_eq_true_eq, atI0a, atI0b, atI0c, atI1b, atI1c, atI2c]; exact h
/-- a service -/
def isWord (w : Str) : Prop := w = "queue" ∨ w = "order" ∨ w = "any"
theorem sok_queue : PyData.strOk ("queue" : Str) = true := by decide +kernel
theorem sok_order : PyData.strOk ("order" : Str) = true := by decide +kernel
theorem sok_any : PyData.strOk ("any" : Str) = true := by decide +kernel
theorem qq : decide (("queue" : Str) = "queue") = true := by decide +kernel
theorem oo : decide (("order" : Str) = "order") = true := by decide +kernel
theorem aa : decide (("any" : Str) = "any") = true := by decide +kernel
theorem qo : decide (("queue" : Str) = "order") = false := by decide +kernel
theorem qa : decide (("queue" : Str) = "any") = false := by decide +kernel
theorem oa : decide (("order" : Str) = "any") = false := by decide +kernel
abbrev cWORDS : PD := .tup [.str "queue", .str "order", .str "any"]
def sv (w : Str) (n : Int) : PD := .tup [.str w, .int n]
def Sv (w : Str) (n : Int) : Prop := isWord w ∧ 1 ≤ n ∧ n ≤ 4
def wIsService : Ws := (wSeq (wIfS (wOr (wNot (wB (wIsi "tuple" (wVar 0)))) (wB (wBin dNeX (wCB dLen (wCons (wVar 0) wNil)) (wC (.int 2))))) (wRet (wC (.bl false))) wNext)
  (wSeq (wUnp (wVar 0) (wgTup 2 (wgCons (wName 1) (wgCons (wName 2) wgNil))))
  (wRet (wAndV (wIsi "str" (wVar 1)) (wAndV (wBin (dIn false) (wVar 1) (wC cWORDS)) (wCall 3 FIsWithin noX (wCons (wVar 2) (wCons (wC (.int 1)) (wCons (wC (.int 4)) wNil)))))))))
def FIsService : Fd := mkF (pin [0]) 3 (fun _ => wIsService)
theorem inWords {w : Str} (h : isWord w) : ∀ k : Rz → Prop, dIn false (.str w) cWORDS k = k (.dat (.bl true)) := fun k => by
  have e : ([PD.str "queue", .str "order", .str "any"].any fun y => PyData.eqv y.py (PD.str w).py) = true := by
    rcases h with rfl | rfl | rfl <;> decide +kernel
  show (PD.flat (.str w) = true ∧ _ ∧ k (.dat (.bl (if false = true then _ else _)))) = _
  rw [if_neg Bool.false_ne_true, e]
  simp [PD.flat]
theorem isService_ok {w : Str} {n : Int} {Q : Rz → Sl → Prop} {Ξ : Xp} (hs : Sv w n) (h : Q (.dat (.bl true)) [.dat (sv w n)]) : FIsService [.dat (sv w n)] Q Ξ := by
  obtain ⟨hw, h1, h2⟩ := hs
  unfold FIsService mkF
  refine ⟨pinned1, ?_⟩
  simp only [wIsService, sv, wSeq, wNext, wIfS, wSetF, wSet, into, wSetIx, wRet, wRetN, wDrop, wB, wBin, wUn, wCB, wCons, wNil, wVar, wC, wIf, wAnd, wOr, wNot, wAndV, wOrV, wNotV, wTup, wLst, wSl, wNoPart, wPart, wChain, wUnp, wgTup, wgCons, wgNil, wName, wIsi, wListRg, wRg1, wRg2, wTupRg, wPuts, puts, Rz.sd, wConsH, wAppend, wExtend, ownL, dI, dI0, dIx, dInt, dAbs, dLen, dMax2, dMin2, dSum, dAll, dAny, dList, dTuple, dAdd, dNeg, dIsN, dNotN, PD.isN, dSl, look, looks, ok, Rz.pd, SD.pd, OD.pd, Rz.cold, Rz.cool, warm, pdsOf, frz, frzAll, leave, argOf, onceB, newBor, isBor, ty_non, ty_bl, ty_int, ty_str, ty_lst, ty_scr, ty_tup, ty_dct, isa, String.reduceBEq, beq_self_eq_true, Bool.false_and, Bool.and_false, Bool.not_true, Bool.or_self, wYes, wCall, backS_0, backS_1, backS_2, backS_3, backS_4, backS_o0, backS_o1, backS_o2, backS_o3, dEq_int, dEq_str, dNeX_int, dNeX_str, List.length_cons, List.length_nil, List.cons_append, List.nil_append, List.replicate, Nat.reduceAdd, Nat.reduceSub, List.getElem?_cons_zero, List.getElem?_cons_succ, Option.bind_some, List.set_cons_zero, List.set_cons_succ, List.map_cons, List.map_nil, List.any_cons, List.any_nil, List.getD_cons_zero, List.getD_cons_succ, true_or, or_true, true_and, and_true, Bool.and_true, Bool.true_and, Bool.or_false, Bool.false_or, Bool.not_false, Bool.not_true, Bool.or_true, Bool.true_or, decide_true, decide_false, wFor, wRng1, wRng2, wLc, wSeqI, items, wEnumX, wCallO, wNever, noOwn, List.all_cons, List.all_nil, wipeS, Bool.and_self, decide_eq_true_eq, atI0a, atI0b, atI0c, atI1b, atI1c, atI2c]
  have e2 : ((2 : Nat) : Int) = 2 := rfl
  simp only [e2, ne_eq, not_true, wSeq, wNext, wIfS, wSetF, wSet, into, wSetIx, wRet, wRetN, wDrop, wB, wBin, wUn, wCB, wCons, wNil, wVar, wC, wIf, wAnd, wOr, wNot, wAndV, wOrV, wNotV, wTup, wLst, wSl, wNoPart, wPart, wChain, wUnp, wgTup, wgCons, wgNil, wName, wIsi, wListRg, wRg1, wRg2, wTupRg, wPuts, puts, Rz.sd, wConsH, wAppend, wExtend, ownL, dI, dI0, dIx, dInt, dAbs, dLen, dMax2, dMin2, dSum, dAll, dAny, dList, dTuple, dAdd, dNeg, dIsN, dNotN, PD.isN, dSl, look, looks, ok, Rz.pd, SD.pd, OD.pd, Rz.cold, Rz.cool, warm, pdsOf, frz, frzAll, leave, argOf, onceB, newBor, isBor, ty_non, ty_bl, ty_int, ty_str, ty_lst, ty_scr, ty_tup, ty_dct, isa, String.reduceBEq, beq_self_eq_true, Bool.false_and, Bool.and_false, Bool.not_true, Bool.or_self, wYes, wCall, backS_0, backS_1, backS_2, backS_3, backS_4, backS_o0, backS_o1, backS_o2, backS_o3, dEq_int, dEq_str, dNeX_int, dNeX_str, List.length_cons, List.length_nil, List.cons_append, List.nil_append, List.replicate, Nat.reduceAdd, Nat.reduceSub, List.getElem?_cons_zero, List.getElem?_cons_succ, Option.bind_some, List.set_cons_zero, List.set_cons_succ, List.map_cons, List.map_nil, List.any_cons, List.any_nil, List.getD_cons_zero, List.getD_cons_succ, true_or, or_true, true_and, and_true, Bool.and_true, Bool.true_and, Bool.or_false, Bool.false_or, Bool.not_false, Bool.not_true, Bool.or_true, Bool.true_or, decide_true, decide_false, wFor, wRng1, wRng2, wLc, wSeqI, items, wEnumX, wCallO, wNever, noOwn, List.all_cons, List.all_nil, wipeS, Bool.and_self, decide_eq_true_eq, atI0a, atI0b, atI0c, atI1b, atI1c, atI2c]
  simp only [inWords hw, wSeq, wNext, wIfS, wSetF, wSet, into, wSetIx, wRet, wRetN, wDrop, wB, wBin, wUn, wCB, wCons, wNil, wVar, wC, wIf, wAnd, wOr, wNot, wAndV, wOrV, wNotV, wTup, wLst, wSl, wNoPart, wPart, wChain, wUnp, wgTup, wgCons, wgNil, wName, wIsi, wListRg, wRg1, wRg2, wTupRg, wPuts, puts, Rz.sd, wConsH, wAppend, wExtend, ownL, dI, dI0, dIx, dInt, dAbs, dLen, dMax2, dMin2, dSum, dAll, dAny, dList, dTuple, dAdd, dNeg, dIsN, dNotN, PD.isN, dSl, look, looks, ok, Rz.pd, SD.pd, OD.pd, Rz.cold, Rz.cool, warm, pdsOf, frz, frzAll, leave, argOf, onceB, newBor, isBor, ty_non, ty_bl, ty_int, ty_str, ty_lst, ty_scr, ty_tup, ty_dct, isa, String.reduceBEq, beq_self_eq_true, Bool.false_and, Bool.and_false, Bool.not_true, Bool.or_self, wYes, wCall, backS_0, backS_1, backS_2, backS_3, backS_4, backS_o0, backS_o1, backS_o2, backS_o3, dEq_int, dEq_str, dNeX_int, dNeX_str, List.length_cons, List.length_nil, List.cons_append, List.nil_append, List.replicate, Nat.reduceAdd, Nat.reduceSub, List.getElem?_cons_zero, List.getElem?_cons_succ, Option.bind_some, List.set_cons_zero, List.set_cons_succ, List.map_cons, List.map_nil, List.any_cons, List.any_nil, List.getD_cons_zero, List.getD_cons_succ, true_or, or_true, true_and, and_true, Bool.and_true, Bool.true_and, Bool.or_false, Bool.false_or, Bool.not_false, Bool.not_true, Bool.or_true, Bool.true_or, decide_true, decide_false, wFor, wRng1, wRng2, wLc, wSeqI, items, wEnumX, wCallO, wNever, noOwn, List.all_cons, List.all_nil, wipeS, Bool.and_self, decide_eq_true_eq, atI0a, atI0b, atI0c, atI1b, atI1c, atI2c]
  refine isWithin_ok ⟨_, rfl⟩ ?_
  have e3 : within (.int n) 1 4 = true := by simp only [within, decide_eq_true h1, decide_eq_true h2, Bool.and_self]
  rw [e3]
  exact h
def wCheckService (F : Fd) (R : Ws) : Ws := (wIfS (wNot (wB (wCall 1 F noX (wCons (wVar 0) wNil)))) R wNext)
def FCheckService (R : Xp → Ws) : Fd := mkF (pin [0]) 1 (fun Ξ => wCheckService FIsService (R Ξ))
theorem checkService_ok {w : Str} {n : Int} {R : Xp → Ws} {Q : Rz → Sl → Prop} {Ξ : Xp} (hs : Sv w n) (h : Q (.dat .non) [.dat (sv w n)]) : FCheckService R [.dat (sv w n)] Q Ξ := by
  unfold FCheckService mkF
  refine ⟨pinned1, ?_⟩
  simp only [wCheckService, wSeq, wNext, wIfS, wSetF, wSet, into, wSetIx, wRet, wRetN, wDrop, wB, wBin, wUn, wCB, wCons, wNil, wVar, wC, wIf, wAnd, wOr, wNot, wAndV, wOrV, wNotV, wTup, wLst, wSl, wNoPart, wPart, wChain, wUnp, wgTup, wgCons, wgNil, wName, wIsi, wListRg, wRg1, wRg2, wTupRg, wPuts, puts, Rz.sd, wConsH, wAppend, wExtend, ownL, dI, dI0, dIx, dInt, dAbs, dLen, dMax2, dMin2, dSum, dAll, dAny, dList, dTuple, dAdd, dNeg, dIsN, dNotN, PD.isN, dSl, look, looks, ok, Rz.pd, SD.pd, OD.pd, Rz.cold, Rz.cool, warm, pdsOf, frz, frzAll, leave, argOf, onceB, newBor, isBor, ty_non, ty_bl, ty_int, ty_str, ty_lst, ty_scr, ty_tup, ty_dct, isa, String.reduceBEq, beq_self_eq_true, Bool.false_and, Bool.and_false, Bool.not_true, Bool.or_self, wYes, wCall, backS_0, backS_1, backS_2, backS_3, backS_4, backS_o0, backS_o1, backS_o2, backS_o3, dEq_int, dEq_str, dNeX_int, dNeX_str, List.length_cons, List.length_nil, List.cons_append, List.nil_append, List.replicate, Nat.reduceAdd, Nat.reduceSub, List.getElem?_cons_zero, List.getElem?_cons_succ, Option.bind_some, List.set_cons_zero, List.set_cons_succ, List.map_cons, List.map_nil, List.any_cons, List.any_nil, List.getD_cons_zero, List.getD_cons_succ, true_or, or_true, true_and, and_true, Bool.and_true, Bool.true_and, Bool.or_false, Bool.false_or, Bool.not_false, Bool.not_true, Bool.or_true, Bool.true_or, decide_true, decide_false, wFor, wRng1, wRng2, wLc, wSeqI, items, wEnumX, wCallO, wNever, noOwn, List.all_cons, List.all_nil, wipeS, Bool.and_self, decide_eq_true_eq, atI0a, atI0b, atI0c, atI1b, atI1c, atI2c]
  refine isService_ok hs ?_
  simp only [wSeq, wNext, wIfS, wSetF, wSet, into, wSetIx, wRet, wRetN, wDrop, wB, wBin, wUn, wCB, wCons, wNil, wVar, wC, wIf, wAnd, wOr, wNot, wAndV, wOrV, wNotV, wTup, wLst, wSl, wNoPart, wPart, wChain, wUnp, wgTup, wgCons, wgNil, wName, wIsi, wListRg, wRg1, wRg2, wTupRg, wPuts, puts, Rz.sd, wConsH, wAppend, wExtend, ownL, dI, dI0, dIx, dInt, dAbs, dLen, dMax2, dMin2, dSum, dAll, dAny, dList, dTuple, dAdd, dNeg, dIsN, dNotN, PD.isN, dSl, look, looks, ok, Rz.pd, SD.pd, OD.pd, Rz.cold, Rz.cool, warm, pdsOf, frz, frzAll, leave, argOf, onceB, newBor, isBor, ty_non, ty_bl, ty_int, ty_str, ty_lst, ty_scr, ty_tup, ty_dct, isa, String.reduceBEq, beq_self_eq_true, Bool.false_and, Bool.and_false, Bool.not_true, Bool.or_self, wYes, wCall, backS_0, backS_1, backS_2, backS_3, backS_4, backS_o0, backS_o1, backS_o2, backS_o3, dEq_int, dEq_str, dNeX_int, dNeX_str, List.length_cons, List.length_nil, List.cons_append, List.nil_append, List.replicate, Nat.reduceAdd, Nat.reduceSub, List.getElem?_cons_zero, List.getElem?_cons_succ, Option.bind_some, List.set_cons_zero, List.set_cons_succ, List.map_cons, List.map_nil, List.any_cons, List.any_nil, List.getD_cons_zero, List.getD_cons_succ, true_or, or_true, true_and, and_true, Bool.and_true, Bool.true_and, Bool.or_false, Bool.false_or, Bool.not_false, Bool.not_true, Bool.or_true, Bool.true_or, decide_true, decide_false, wFor, wRng1, wRng2, wLc, wSeqI, items, wEnumX, wCallO, wNever, noOwn, List.all_cons, List.all_nil, wipeS, Bool.and_self, decide_eq_true_eq, atI0a, atI0b, atI0c, atI1b, atI1c, atI2c]
  exact h
end DL

set_option Elab.async false
set_option linter.all false
set_option maxRecDepth 100000
set_option maxHeartbeats 4000000
set_option exponentiation.threshold 3000
namespace DL
open PySem L2
/-! ### weights -/
def wts : List Int → Int → List Int
  | [], p => [p]
  | b :: bs, p => p :: wts bs (p * b)
def wWeights : Ws := (wSeq (wSet 1 (wLst (wCons (wC (.int 1)) wNil)))
  (wSeq (wFor (wSeqI (wVar 0)) (wName 2) (wDrop (wAppend 1 (wCons (wBin (dI CMulX fun i j => .int (i * j)) (wBin dIx (wVar 1) (wUn dNeg (wC (.int 1)))) (wVar 2)) wNil))))
  (wRet (wVar 1))))
def FWeights : Fd := mkF (pin [0]) 3 (fun _ => wWeights)
def Bases (ns : List Int) : Prop := ∀ b ∈ ns, 2 ≤ b ∧ b ≤ 4
/-! ### which pairs can be -/
/-- the pair (x, y, d) in a service -/
def Poss (w : Str) (n x y d : Int) : Bool :=
  if w = "any" then decide (x ≠ d + y) && (decide (0 < d) || decide (1 < n))
  else if d + y ≤ x then false
  else if w = "order" then decide (0 < d) || decide (1 < n)
  else decide (y - x ≤ (d + 1) * (n - 1)) && (decide (1 < n) || decide (x = 0))
def wIsPossible : Ws := (wSeq (wUnp (wVar 0) (wgTup 2 (wgCons (wName 2) (wgCons (wName 3) wgNil))))
  (wSeq (wUnp (wVar 1) (wgTup 3 (wgCons (wName 4) (wgCons (wName 5) (wgCons (wName 6) wgNil)))))
  (wSeq (wIfS (wB (wBin dEq (wVar 2) (wC (.str "any")))) (wRet (wAndV (wBin dNeX (wVar 4) (wBin dAdd (wVar 6) (wVar 5))) (wOrV (wBin (dI0 fun i j => .bl (decide (j < i))) (wVar 6) (wC (.int 0))) (wBin (dI0 fun i j => .bl (decide (j < i))) (wVar 3) (wC (.int 1)))))) wNext)
  (wSeq (wIfS (wB (wBin (dI0 fun i j => .bl (decide (j ≤ i))) (wVar 4) (wBin dAdd (wVar 6) (wVar 5)))) (wRet (wC (.bl false))) wNext)
  (wSeq (wIfS (wB (wBin dEq (wVar 2) (wC (.str "order")))) (wRet (wOrV (wBin (dI0 fun i j => .bl (decide (j < i))) (wVar 6) (wC (.int 0))) (wBin (dI0 fun i j => .bl (decide (j < i))) (wVar 3) (wC (.int 1))))) wNext)
  (wRet (wAndV (wBin (dI0 fun i j => .bl (decide (i ≤ j))) (wBin (dI0 fun i j => .int (i - j)) (wVar 5) (wVar 4)) (wBin (dI CMulX fun i j => .int (i * j)) (wBin dAdd (wVar 6) (wC (.int 1))) (wBin (dI0 fun i j => .int (i - j)) (wVar 3) (wC (.int 1))))) (wOrV (wBin (dI0 fun i j => .bl (decide (j < i))) (wVar 3) (wC (.int 1))) (wBin dEq (wVar 4) (wC (.int 0)))))))))))
def FIsPossible : Fd := mkF (pin [0, 1]) 7 (fun _ => wIsPossible)
theorem isPossible_ok {w : Str} {n x y d : Int} {Q : Rz → Sl → Prop} {Ξ : Xp} (hs : Sv w n) (hd : Sm (d + 1)) (h : Q (.dat (.bl (Poss w n x y d))) [.dat (sv w n), .dat (.tup [.int x, .int y, .int d])]) : FIsPossible [.dat (sv w n), .dat (.tup [.int x, .int y, .int d])] Q Ξ := by
  obtain ⟨hw, h1, h2⟩ := hs
  unfold FIsPossible mkF
  refine ⟨pinnedD (xs := [sv w n, .tup [.int x, .int y, .int d]]), ?_⟩
  simp only [wIsPossible, sv, wSeq, wNext, wIfS, wSetF, wSet, into, wSetIx, wRet, wRetN, wDrop, wB, wBin, wUn, wCB, wCons, wNil, wVar, wC, wIf, wAnd, wOr, wNot, wAndV, wOrV, wNotV, wTup, wLst, wSl, wNoPart, wPart, wChain, wUnp, wgTup, wgCons, wgNil, wName, wIsi, wListRg, wRg1, wRg2, wTupRg, wPuts, puts, Rz.sd, wConsH, wAppend, wExtend, ownL, dI, dI0, dIx, dInt, dAbs, dLen, dMax2, dMin2, dSum, dAll, dAny, dList, dTuple, dAdd, dNeg, dIsN, dNotN, PD.isN, dSl, look, looks, ok, Rz.pd, SD.pd, OD.pd, Rz.cold, Rz.cool, warm, pdsOf, frz, frzAll, leave, argOf, onceB, newBor, isBor, ty_non, ty_bl, ty_int, ty_str, ty_lst, ty_scr, ty_tup, ty_dct, isa, String.reduceBEq, beq_self_eq_true, Bool.false_and, Bool.and_false, Bool.not_true, Bool.or_self, wYes, wCall, backS_0, backS_1, backS_2, backS_3, backS_4, backS_o0, backS_o1, backS_o2, backS_o3, dEq_int, dEq_str, dNeX_int, dNeX_str, List.length_cons, List.length_nil, List.cons_append, List.nil_append, List.replicate, Nat.reduceAdd, Nat.reduceSub, List.getElem?_cons_zero, List.getElem?_cons_succ, Option.bind_some, List.set_cons_zero, List.set_cons_succ, List.map_cons, List.map_nil, List.any_cons, List.any_nil, List.getD_cons_zero, List.getD_cons_succ, true_or, or_true, true_and, and_true, Bool.and_true, Bool.true_and, Bool.or_false, Bool.false_or, Bool.not_false, Bool.not_true, Bool.or_true, Bool.true_or, decide_true, decide_false, wFor, wRng1, wRng2, wLc, wSeqI, items, wEnumX, wCallO, wNever, noOwn, List.all_cons, List.all_nil, wipeS, Bool.and_self, decide_eq_true_eq, atI0a, atI0b, atI0c, atI1b, atI1c, atI2c]
  have z2 : (2 : Nat) ≤ sizeLine := sz (by decide)
  have z3 : (3 : Nat) ≤ sizeLine := sz (by decide)
  have e : Poss w n x y d = Poss w n x y d := rfl
  rcases hw with rfl | rfl | rfl
  · have ne1 : ("queue" : Str) ≠ "any" := by decide +kernel
    have ne2 : ("queue" : Str) ≠ "order" := by decide +kernel
    unfold Poss at h
    rw [if_neg ne1, if_neg ne2] at h
    simp only [dEq_str sok_queue sok_any, dEq_str sok_queue sok_order, qa, qo, z2, z3, wSeq, wNext, wIfS, wSetF, wSet, into, wSetIx, wRet, wRetN, wDrop, wB, wBin, wUn, wCB, wCons, wNil, wVar, wC, wIf, wAnd, wOr, wNot, wAndV, wOrV, wNotV, wTup, wLst, wSl, wNoPart, wPart, wChain, wUnp, wgTup, wgCons, wgNil, wName, wIsi, wListRg, wRg1, wRg2, wTupRg, wPuts, puts, Rz.sd, wConsH, wAppend, wExtend, ownL, dI, dI0, dIx, dInt, dAbs, dLen, dMax2, dMin2, dSum, dAll, dAny, dList, dTuple, dAdd, dNeg, dIsN, dNotN, PD.isN, dSl, look, looks, ok, Rz.pd, SD.pd, OD.pd, Rz.cold, Rz.cool, warm, pdsOf, frz, frzAll, leave, argOf, onceB, newBor, isBor, ty_non, ty_bl, ty_int, ty_str, ty_lst, ty_scr, ty_tup, ty_dct, isa, String.reduceBEq, beq_self_eq_true, Bool.false_and, Bool.and_false, Bool.not_true, Bool.or_self, wYes, wCall, backS_0, backS_1, backS_2, backS_3, backS_4, backS_o0, backS_o1, backS_o2, backS_o3, dEq_int, dEq_str, dNeX_int, dNeX_str, List.length_cons, List.length_nil, List.cons_append, List.nil_append, List.replicate, Nat.reduceAdd, Nat.reduceSub, List.getElem?_cons_zero, List.getElem?_cons_succ, Option.bind_some, List.set_cons_zero, List.set_cons_succ, List.map_cons, List.map_nil, List.any_cons, List.any_nil, List.getD_cons_zero, List.getD_cons_succ, true_or, or_true, true_and, and_true, Bool.and_true, Bool.true_and, Bool.or_false, Bool.false_or, Bool.not_false, Bool.not_true, Bool.or_true, Bool.true_or, decide_true, decide_false, wFor, wRng1, wRng2, wLc, wSeqI, items, wEnumX, wCallO, wNever, noOwn, List.all_cons, List.all_nil, wipeS, Bool.and_self, decide_eq_true_eq, atI0a, atI0b, atI0c, atI1b, atI1c, atI2c]
    by_cases c1 : d + y ≤ x
    · rw [if_pos c1] at h
      simp only [decide_eq_true c1, wSeq, wNext, wIfS, wSetF, wSet, into, wSetIx, wRet, wRetN, wDrop, wB, wBin, wUn, wCB, wCons, wNil, wVar, wC, wIf, wAnd, wOr, wNot, wAndV, wOrV, wNotV, wTup, wLst, wSl, wNoPart, wPart, wChain, wUnp, wgTup, wgCons, wgNil, wName, wIsi, wListRg, wRg1, wRg2, wTupRg, wPuts, puts, Rz.sd, wConsH, wAppend, wExtend, ownL, dI, dI0, dIx, dInt, dAbs, dLen, dMax2, dMin2, dSum, dAll, dAny, dList, dTuple, dAdd, dNeg, dIsN, dNotN, PD.isN, dSl, look, looks, ok, Rz.pd, SD.pd, OD.pd, Rz.cold, Rz.cool, warm, pdsOf, frz, frzAll, leave, argOf, onceB, newBor, isBor, ty_non, ty_bl, ty_int, ty_str, ty_lst, ty_scr, ty_tup, ty_dct, isa, String.reduceBEq, beq_self_eq_true, Bool.false_and, Bool.and_false, Bool.not_true, Bool.or_self, wYes, wCall, backS_0, backS_1, backS_2, backS_3, backS_4, backS_o0, backS_o1, backS_o2, backS_o3, dEq_int, dEq_str, dNeX_int, dNeX_str, List.length_cons, List.length_nil, List.cons_append, List.nil_append, List.replicate, Nat.reduceAdd, Nat.reduceSub, List.getElem?_cons_zero, List.getElem?_cons_succ, Option.bind_some, List.set_cons_zero, List.set_cons_succ, List.map_cons, List.map_nil, List.any_cons, List.any_nil, List.getD_cons_zero, List.getD_cons_succ, true_or, or_true, true_and, and_true, Bool.and_true, Bool.true_and, Bool.or_false, Bool.false_or, Bool.not_false, Bool.not_true, Bool.or_true, Bool.true_or, decide_true, decide_false, wFor, wRng1, wRng2, wLc, wSeqI, items, wEnumX, wCallO, wNever, noOwn, List.all_cons, List.all_nil, wipeS, Bool.and_self, decide_eq_true_eq, atI0a, atI0b, atI0c, atI1b, atI1c, atI2c]
      exact h
    · rw [if_neg c1] at h
      simp only [decide_eq_false c1, wSeq, wNext, wIfS, wSetF, wSet, into, wSetIx, wRet, wRetN, wDrop, wB, wBin, wUn, wCB, wCons, wNil, wVar, wC, wIf, wAnd, wOr, wNot, wAndV, wOrV, wNotV, wTup, wLst, wSl, wNoPart, wPart, wChain, wUnp, wgTup, wgCons, wgNil, wName, wIsi, wListRg, wRg1, wRg2, wTupRg, wPuts, puts, Rz.sd, wConsH, wAppend, wExtend, ownL, dI, dI0, dIx, dInt, dAbs, dLen, dMax2, dMin2, dSum, dAll, dAny, dList, dTuple, dAdd, dNeg, dIsN, dNotN, PD.isN, dSl, look, looks, ok, Rz.pd, SD.pd, OD.pd, Rz.cold, Rz.cool, warm, pdsOf, frz, frzAll, leave, argOf, onceB, newBor, isBor, ty_non, ty_bl, ty_int, ty_str, ty_lst, ty_scr, ty_tup, ty_dct, isa, String.reduceBEq, beq_self_eq_true, Bool.false_and, Bool.and_false, Bool.not_true, Bool.or_self, wYes, wCall, backS_0, backS_1, backS_2, backS_3, backS_4, backS_o0, backS_o1, backS_o2, backS_o3, dEq_int, dEq_str, dNeX_int, dNeX_str, List.length_cons, List.length_nil, List.cons_append, List.nil_append, List.replicate, Nat.reduceAdd, Nat.reduceSub, List.getElem?_cons_zero, List.getElem?_cons_succ, Option.bind_some, List.set_cons_zero, List.set_cons_succ, List.map_cons, List.map_nil, List.any_cons, List.any_nil, List.getD_cons_zero, List.getD_cons_succ, true_or, or_true, true_and, and_true, Bool.and_true, Bool.true_and, Bool.or_false, Bool.false_or, Bool.not_false, Bool.not_true, Bool.or_true, Bool.true_or, decide_true, decide_false, wFor, wRng1, wRng2, wLc, wSeqI, items, wEnumX, wCallO, wNever, noOwn, List.all_cons, List.all_nil, wipeS, Bool.and_self, decide_eq_true_eq, atI0a, atI0b, atI0c, atI1b, atI1c, atI2c]
      refine ⟨mulX hd (sm_big (by omega)), ?_⟩
      by_cases c2 : y - x ≤ (d + 1) * (n - 1)
      · rw [decide_eq_true c2, Bool.true_and] at h
        simp only [decide_eq_true c2, wSeq, wNext, wIfS, wSetF, wSet, into, wSetIx, wRet, wRetN, wDrop, wB, wBin, wUn, wCB, wCons, wNil, wVar, wC, wIf, wAnd, wOr, wNot, wAndV, wOrV, wNotV, wTup, wLst, wSl, wNoPart, wPart, wChain, wUnp, wgTup, wgCons, wgNil, wName, wIsi, wListRg, wRg1, wRg2, wTupRg, wPuts, puts, Rz.sd, wConsH, wAppend, wExtend, ownL, dI, dI0, dIx, dInt, dAbs, dLen, dMax2, dMin2, dSum, dAll, dAny, dList, dTuple, dAdd, dNeg, dIsN, dNotN, PD.isN, dSl, look, looks, ok, Rz.pd, SD.pd, OD.pd, Rz.cold, Rz.cool, warm, pdsOf, frz, frzAll, leave, argOf, onceB, newBor, isBor, ty_non, ty_bl, ty_int, ty_str, ty_lst, ty_scr, ty_tup, ty_dct, isa, String.reduceBEq, beq_self_eq_true, Bool.false_and, Bool.and_false, Bool.not_true, Bool.or_self, wYes, wCall, backS_0, backS_1, backS_2, backS_3, backS_4, backS_o0, backS_o1, backS_o2, backS_o3, dEq_int, dEq_str, dNeX_int, dNeX_str, List.length_cons, List.length_nil, List.cons_append, List.nil_append, List.replicate, Nat.reduceAdd, Nat.reduceSub, List.getElem?_cons_zero, List.getElem?_cons_succ, Option.bind_some, List.set_cons_zero, List.set_cons_succ, List.map_cons, List.map_nil, List.any_cons, List.any_nil, List.getD_cons_zero, List.getD_cons_succ, true_or, or_true, true_and, and_true, Bool.and_true, Bool.true_and, Bool.or_false, Bool.false_or, Bool.not_false, Bool.not_true, Bool.or_true, Bool.true_or, decide_true, decide_false, wFor, wRng1, wRng2, wLc, wSeqI, items, wEnumX, wCallO, wNever, noOwn, List.all_cons, List.all_nil, wipeS, Bool.and_self, decide_eq_true_eq, atI0a, atI0b, atI0c, atI1b, atI1c, atI2c]
        by_cases c3 : 1 < n
        · rw [decide_eq_true c3, Bool.true_or] at h
          simp only [decide_eq_true c3, wSeq, wNext, wIfS, wSetF, wSet, into, wSetIx, wRet, wRetN, wDrop, wB, wBin, wUn, wCB, wCons, wNil, wVar, wC, wIf, wAnd, wOr, wNot, wAndV, wOrV, wNotV, wTup, wLst, wSl, wNoPart, wPart, wChain, wUnp, wgTup, wgCons, wgNil, wName, wIsi, wListRg, wRg1, wRg2, wTupRg, wPuts, puts, Rz.sd, wConsH, wAppend, wExtend, ownL, dI, dI0, dIx, dInt, dAbs, dLen, dMax2, dMin2, dSum, dAll, dAny, dList, dTuple, dAdd, dNeg, dIsN, dNotN, PD.isN, dSl, look, looks, ok, Rz.pd, SD.pd, OD.pd, Rz.cold, Rz.cool, warm, pdsOf, frz, frzAll, leave, argOf, onceB, newBor, isBor, ty_non, ty_bl, ty_int, ty_str, ty_lst, ty_scr, ty_tup, ty_dct, isa, String.reduceBEq, beq_self_eq_true, Bool.false_and, Bool.and_false, Bool.not_true, Bool.or_self, wYes, wCall, backS_0, backS_1, backS_2, backS_3, backS_4, backS_o0, backS_o1, backS_o2, backS_o3, dEq_int, dEq_str, dNeX_int, dNeX_str, List.length_cons, List.length_nil, List.cons_append, List.nil_append, List.replicate, Nat.reduceAdd, Nat.reduceSub, List.getElem?_cons_zero, List.getElem?_cons_succ, Option.bind_some, List.set_cons_zero, List.set_cons_succ, List.map_cons, List.map_nil, List.any_cons, List.any_nil, List.getD_cons_zero, List.getD_cons_succ, true_or, or_true, true_and, and_true, Bool.and_true, Bool.true_and, Bool.or_false, Bool.false_or, Bool.not_false, Bool.not_true, Bool.or_true, Bool.true_or, decide_true, decide_false, wFor, wRng1, wRng2, wLc, wSeqI, items, wEnumX, wCallO, wNever, noOwn, List.all_cons, List.all_nil, wipeS, Bool.and_self, decide_eq_true_eq, atI0a, atI0b, atI0c, atI1b, atI1c, atI2c]; exact h
        · rw [decide_eq_false c3, Bool.false_or] at h
          simp only [decide_eq_false c3, wSeq, wNext, wIfS, wSetF, wSet, into, wSetIx, wRet, wRetN, wDrop, wB, wBin, wUn, wCB, wCons, wNil, wVar, wC, wIf, wAnd, wOr, wNot, wAndV, wOrV, wNotV, wTup, wLst, wSl, wNoPart, wPart, wChain, wUnp, wgTup, wgCons, wgNil, wName, wIsi, wListRg, wRg1, wRg2, wTupRg, wPuts, puts, Rz.sd, wConsH, wAppend, wExtend, ownL, dI, dI0, dIx, dInt, dAbs, dLen, dMax2, dMin2, dSum, dAll, dAny, dList, dTuple, dAdd, dNeg, dIsN, dNotN, PD.isN, dSl, look, looks, ok, Rz.pd, SD.pd, OD.pd, Rz.cold, Rz.cool, warm, pdsOf, frz, frzAll, leave, argOf, onceB, newBor, isBor, ty_non, ty_bl, ty_int, ty_str, ty_lst, ty_scr, ty_tup, ty_dct, isa, String.reduceBEq, beq_self_eq_true, Bool.false_and, Bool.and_false, Bool.not_true, Bool.or_self, wYes, wCall, backS_0, backS_1, backS_2, backS_3, backS_4, backS_o0, backS_o1, backS_o2, backS_o3, dEq_int, dEq_str, dNeX_int, dNeX_str, List.length_cons, List.length_nil, List.cons_append, List.nil_append, List.replicate, Nat.reduceAdd, Nat.reduceSub, List.getElem?_cons_zero, List.getElem?_cons_succ, Option.bind_some, List.set_cons_zero, List.set_cons_succ, List.map_cons, List.map_nil, List.any_cons, List.any_nil, List.getD_cons_zero, List.getD_cons_succ, true_or, or_true, true_and, and_true, Bool.and_true, Bool.true_and, Bool.or_false, Bool.false_or, Bool.not_false, Bool.not_true, Bool.or_true, Bool.true_or, decide_true, decide_false, wFor, wRng1, wRng2, wLc, wSeqI, items, wEnumX, wCallO, wNever, noOwn, List.all_cons, List.all_nil, wipeS, Bool.and_self, decide_eq_true_eq, atI0a, atI0b, atI0c, atI1b, atI1c, atI2c]; exact h
      · rw [decide_eq_false c2, Bool.false_and] at h
        simp only [decide_eq_false c2, wSeq, wNext, wIfS, wSetF, wSet, into, wSetIx, wRet, wRetN, wDrop, wB, wBin, wUn, wCB, wCons, wNil, wVar, wC, wIf, wAnd, wOr, wNot, wAndV, wOrV, wNotV, wTup, wLst, wSl, wNoPart, wPart, wChain, wUnp, wgTup, wgCons, wgNil, wName, wIsi, wListRg, wRg1, wRg2, wTupRg, wPuts, puts, Rz.sd, wConsH, wAppend, wExtend, ownL, dI, dI0, dIx, dInt, dAbs, dLen, dMax2, dMin2, dSum, dAll, dAny, dList, dTuple, dAdd, dNeg, dIsN, dNotN, PD.isN, dSl, look, looks, ok, Rz.pd, SD.pd, OD.pd, Rz.cold, Rz.cool, warm, pdsOf, frz, frzAll, leave, argOf, onceB, newBor, isBor, ty_non, ty_bl, ty_int, ty_str, ty_lst, ty_scr, ty_tup, ty_dct, isa, String.reduceBEq, beq_self_eq_true, Bool.false_and, Bool.and_false, Bool.not_true, Bool.or_self, wYes, wCall, backS_0, backS_1, backS_2, backS_3, backS_4, backS_o0, backS_o1, backS_o2, backS_o3, dEq_int, dEq_str, dNeX_int, dNeX_str, List.length_cons, List.length_nil, List.cons_append, List.nil_append, List.replicate, Nat.reduceAdd, Nat.reduceSub, List.getElem?_cons_zero, List.getElem?_cons_succ, Option.bind_some, List.set_cons_zero, List.set_cons_succ, List.map_cons, List.map_nil, List.any_cons, List.any_nil, List.getD_cons_zero, List.getD_cons_succ, true_or, or_true, true_and, and_true, Bool.and_true, Bool.true_and, Bool.or_false, Bool.false_or, Bool.not_false, Bool.not_true, Bool.or_true, Bool.true_or, decide_true, decide_false, wFor, wRng1, wRng2, wLc, wSeqI, items, wEnumX, wCallO, wNever, noOwn, List.all_cons, List.all_nil, wipeS, Bool.and_self, decide_eq_true_eq, atI0a, atI0b, atI0c, atI1b, atI1c, atI2c]; exact h
  · have ne1 : ("order" : Str) ≠ "any" := by decide +kernel
    unfold Poss at h
    rw [if_neg ne1, if_pos rfl] at h
    simp only [dEq_str sok_order sok_any, dEq_str sok_order sok_order, oa, oo, z2, z3, wSeq, wNext, wIfS, wSetF, wSet, into, wSetIx, wRet, wRetN, wDrop, wB, wBin, wUn, wCB, wCons, wNil, wVar, wC, wIf, wAnd, wOr, wNot, wAndV, wOrV, wNotV, wTup, wLst, wSl, wNoPart, wPart, wChain, wUnp, wgTup, wgCons, wgNil, wName, wIsi, wListRg, wRg1, wRg2, wTupRg, wPuts, puts, Rz.sd, wConsH, wAppend, wExtend, ownL, dI, dI0, dIx, dInt, dAbs, dLen, dMax2, dMin2, dSum, dAll, dAny, dList, dTuple, dAdd, dNeg, dIsN, dNotN, PD.isN, dSl, look, looks, ok, Rz.pd, SD.pd, OD.pd, Rz.cold, Rz.cool, warm, pdsOf, frz, frzAll, leave, argOf, onceB, newBor, isBor, ty_non, ty_bl, ty_int, ty_str, ty_lst, ty_scr, ty_tup, ty_dct, isa, String.reduceBEq, beq_self_eq_true, Bool.false_and, Bool.and_false, Bool.not_true, Bool.or_self, wYes, wCall, backS_0, backS_1, backS_2, backS_3, backS_4, backS_o0, backS_o1, backS_o2, backS_o3, dEq_int, dEq_str, dNeX_int, dNeX_str, List.length_cons, List.length_nil, List.cons_append, List.nil_append, List.replicate, Nat.reduceAdd, Nat.reduceSub, List.getElem?_cons_zero, List.getElem?_cons_succ, Option.bind_some, List.set_cons_zero, List.set_cons_succ, List.map_cons, List.map_nil, List.any_cons, List.any_nil, List.getD_cons_zero, List.getD_cons_succ, true_or, or_true, true_and, and_true, Bool.and_true, Bool.true_and, Bool.or_false, Bool.false_or, Bool.not_false, Bool.not_true, Bool.or_true, Bool.true_or, decide_true, decide_false, wFor, wRng1, wRng2, wLc, wSeqI, items, wEnumX, wCallO, wNever, noOwn, List.all_cons, List.all_nil, wipeS, Bool.and_self, decide_eq_true_eq, atI0a, atI0b, atI0c, atI1b, atI1c, atI2c]
    by_cases c1 : d + y ≤ x
    · rw [if_pos c1] at h
      simp only [decide_eq_true c1, wSeq, wNext, wIfS, wSetF, wSet, into, wSetIx, wRet, wRetN, wDrop, wB, wBin, wUn, wCB, wCons, wNil, wVar, wC, wIf, wAnd, wOr, wNot, wAndV, wOrV, wNotV, wTup, wLst, wSl, wNoPart, wPart, wChain, wUnp, wgTup, wgCons, wgNil, wName, wIsi, wListRg, wRg1, wRg2, wTupRg, wPuts, puts, Rz.sd, wConsH, wAppend, wExtend, ownL, dI, dI0, dIx, dInt, dAbs, dLen, dMax2, dMin2, dSum, dAll, dAny, dList, dTuple, dAdd, dNeg, dIsN, dNotN, PD.isN, dSl, look, looks, ok, Rz.pd, SD.pd, OD.pd, Rz.cold, Rz.cool, warm, pdsOf, frz, frzAll, leave, argOf, onceB, newBor, isBor, ty_non, ty_bl, ty_int, ty_str, ty_lst, ty_scr, ty_tup, ty_dct, isa, String.reduceBEq, beq_self_eq_true, Bool.false_and, Bool.and_false, Bool.not_true, Bool.or_self, wYes, wCall, backS_0, backS_1, backS_2, backS_3, backS_4, backS_o0, backS_o1, backS_o2, backS_o3, dEq_int, dEq_str, dNeX_int, dNeX_str, List.length_cons, List.length_nil, List.cons_append, List.nil_append, List.replicate, Nat.reduceAdd, Nat.reduceSub, List.getElem?_cons_zero, List.getElem?_cons_succ, Option.bind_some, List.set_cons_zero, List.set_cons_succ, List.map_cons, List.map_nil, List.any_cons, List.any_nil, List.getD_cons_zero, List.getD_cons_succ, true_or, or_true, true_and, and_true, Bool.and_true, Bool.true_and, Bool.or_false, Bool.false_or, Bool.not_false, Bool.not_true, Bool.or_true, Bool.true_or, decide_true, decide_false, wFor, wRng1, wRng2, wLc, wSeqI, items, wEnumX, wCallO, wNever, noOwn, List.all_cons, List.all_nil, wipeS, Bool.and_self, decide_eq_true_eq, atI0a, atI0b, atI0c, atI1b, atI1c, atI2c]
      exact h
    · rw [if_neg c1] at h
      simp only [decide_eq_false c1, wSeq, wNext, wIfS, wSetF, wSet, into, wSetIx, wRet, wRetN, wDrop, wB, wBin, wUn, wCB, wCons, wNil, wVar, wC, wIf, wAnd, wOr, wNot, wAndV, wOrV, wNotV, wTup, wLst, wSl, wNoPart, wPart, wChain, wUnp, wgTup, wgCons, wgNil, wName, wIsi, wListRg, wRg1, wRg2, wTupRg, wPuts, puts, Rz.sd, wConsH, wAppend, wExtend, ownL, dI, dI0, dIx, dInt, dAbs, dLen, dMax2, dMin2, dSum, dAll, dAny, dList, dTuple, dAdd, dNeg, dIsN, dNotN, PD.isN, dSl, look, looks, ok, Rz.pd, SD.pd, OD.pd, Rz.cold, Rz.cool, warm, pdsOf, frz, frzAll, leave, argOf, onceB, newBor, isBor, ty_non, ty_bl, ty_int, ty_str, ty_lst, ty_scr, ty_tup, ty_dct, isa, String.reduceBEq, beq_self_eq_true, Bool.false_and, Bool.and_false, Bool.not_true, Bool.or_self, wYes, wCall, backS_0, backS_1, backS_2, backS_3, backS_4, backS_o0, backS_o1, backS_o2, backS_o3, dEq_int, dEq_str, dNeX_int, dNeX_str, List.length_cons, List.length_nil, List.cons_append, List.nil_append, List.replicate, Nat.reduceAdd, Nat.reduceSub, List.getElem?_cons_zero, List.getElem?_cons_succ, Option.bind_some, List.set_cons_zero, List.set_cons_succ, List.map_cons, List.map_nil, List.any_cons, List.any_nil, List.getD_cons_zero, List.getD_cons_succ, true_or, or_true, true_and, and_true, Bool.and_true, Bool.true_and, Bool.or_false, Bool.false_or, Bool.not_false, Bool.not_true, Bool.or_true, Bool.true_or, decide_true, decide_false, wFor, wRng1, wRng2, wLc, wSeqI, items, wEnumX, wCallO, wNever, noOwn, List.all_cons, List.all_nil, wipeS, Bool.and_self, decide_eq_true_eq, atI0a, atI0b, atI0c, atI1b, atI1c, atI2c]
      by_cases c3 : 0 < d
      · rw [decide_eq_true c3, Bool.true_or] at h
        simp only [decide_eq_true c3, wSeq, wNext, wIfS, wSetF, wSet, into, wSetIx, wRet, wRetN, wDrop, wB, wBin, wUn, wCB, wCons, wNil, wVar, wC, wIf, wAnd, wOr, wNot, wAndV, wOrV, wNotV, wTup, wLst, wSl, wNoPart, wPart, wChain, wUnp, wgTup, wgCons, wgNil, wName, wIsi, wListRg, wRg1, wRg2, wTupRg, wPuts, puts, Rz.sd, wConsH, wAppend, wExtend, ownL, dI, dI0, dIx, dInt, dAbs, dLen, dMax2, dMin2, dSum, dAll, dAny, dList, dTuple, dAdd, dNeg, dIsN, dNotN, PD.isN, dSl, look, looks, ok, Rz.pd, SD.pd, OD.pd, Rz.cold, Rz.cool, warm, pdsOf, frz, frzAll, leave, argOf, onceB, newBor, isBor, ty_non, ty_bl, ty_int, ty_str, ty_lst, ty_scr, ty_tup, ty_dct, isa, String.reduceBEq, beq_self_eq_true, Bool.false_and, Bool.and_false, Bool.not_true, Bool.or_self, wYes, wCall, backS_0, backS_1, backS_2, backS_3, backS_4, backS_o0, backS_o1, backS_o2, backS_o3, dEq_int, dEq_str, dNeX_int, dNeX_str, List.length_cons, List.length_nil, List.cons_append, List.nil_append, List.replicate, Nat.reduceAdd, Nat.reduceSub, List.getElem?_cons_zero, List.getElem?_cons_succ, Option.bind_some, List.set_cons_zero, List.set_cons_succ, List.map_cons, List.map_nil, List.any_cons, List.any_nil, List.getD_cons_zero, List.getD_cons_succ, true_or, or_true, true_and, and_true, Bool.and_true, Bool.true_and, Bool.or_false, Bool.false_or, Bool.not_false, Bool.not_true, Bool.or_true, Bool.true_or, decide_true, decide_false, wFor, wRng1, wRng2, wLc, wSeqI, items, wEnumX, wCallO, wNever, noOwn, List.all_cons, List.all_nil, wipeS, Bool.and_self, decide_eq_true_eq, atI0a, atI0b, atI0c, atI1b, atI1c, atI2c]; exact h
      · rw [decide_eq_false c3, Bool.false_or] at h
        simp only [decide_eq_false c3, wSeq, wNext, wIfS, wSetF, wSet, into, wSetIx, wRet, wRetN, wDrop, wB, wBin, wUn, wCB, wCons, wNil, wVar, wC, wIf, wAnd, wOr, wNot, wAndV, wOrV, wNotV, wTup, wLst, wSl, wNoPart, wPart, wChain, wUnp, wgTup, wgCons, wgNil, wName, wIsi, wListRg, wRg1, wRg2, wTupRg, wPuts, puts, Rz.sd, wConsH, wAppend, wExtend, ownL, dI, dI0, dIx, dInt, dAbs, dLen, dMax2, dMin2, dSum, dAll, dAny, dList, dTuple, dAdd, dNeg, dIsN, dNotN, PD.isN, dSl, look, looks, ok, Rz.pd, SD.pd, OD.pd, Rz.cold, Rz.cool, warm, pdsOf, frz, frzAll, leave, argOf, onceB, newBor, isBor, ty_non, ty_bl, ty_int, ty_str, ty_lst, ty_scr, ty_tup, ty_dct, isa, String.reduceBEq, beq_self_eq_true, Bool.false_and, Bool.and_false, Bool.not_true, Bool.or_self, wYes, wCall, backS_0, backS_1, backS_2, backS_3, backS_4, backS_o0, backS_o1, backS_o2, backS_o3, dEq_int, dEq_str, dNeX_int, dNeX_str, List.length_cons, List.length_nil, List.cons_append, List.nil_append, List.replicate, Nat.reduceAdd, Nat.reduceSub, List.getElem?_cons_zero, List.getElem?_cons_succ, Option.bind_some, List.set_cons_zero, List.set_cons_succ, List.map_cons, List.map_nil, List.any_cons, List.any_nil, List.getD_cons_zero, List.getD_cons_succ, true_or, or_true, true_and, and_true, Bool.and_true, Bool.true_and, Bool.or_false, Bool.false_or, Bool.not_false, Bool.not_true, Bool.or_true, Bool.true_or, decide_true, decide_false, wFor, wRng1, wRng2, wLc, wSeqI, items, wEnumX, wCallO, wNever, noOwn, List.all_cons, List.all_nil, wipeS, Bool.and_self, decide_eq_true_eq, atI0a, atI0b, atI0c, atI1b, atI1c, atI2c]; exact h
  · unfold Poss at h
    rw [if_pos rfl] at h
    simp only [dEq_str sok_any sok_any, aa, z2, z3, wSeq, wNext, wIfS, wSetF, wSet, into, wSetIx, wRet, wRetN, wDrop, wB, wBin, wUn, wCB, wCons, wNil, wVar, wC, wIf, wAnd, wOr, wNot, wAndV, wOrV, wNotV, wTup, wLst, wSl, wNoPart, wPart, wChain, wUnp, wgTup, wgCons, wgNil, wName, wIsi, wListRg, wRg1, wRg2, wTupRg, wPuts, puts, Rz.sd, wConsH, wAppend, wExtend, ownL, dI, dI0, dIx, dInt, dAbs, dLen, dMax2, dMin2, dSum, dAll, dAny, dList, dTuple, dAdd, dNeg, dIsN, dNotN, PD.isN, dSl, look, looks, ok, Rz.pd, SD.pd, OD.pd, Rz.cold, Rz.cool, warm, pdsOf, frz, frzAll, leave, argOf, onceB, newBor, isBor, ty_non, ty_bl, ty_int, ty_str, ty_lst, ty_scr, ty_tup, ty_dct, isa, String.reduceBEq, beq_self_eq_true, Bool.false_and, Bool.and_false, Bool.not_true, Bool.or_self, wYes, wCall, backS_0, backS_1, backS_2, backS_3, backS_4, backS_o0, backS_o1, backS_o2, backS_o3, dEq_int, dEq_str, dNeX_int, dNeX_str, List.length_cons, List.length_nil, List.cons_append, List.nil_append, List.replicate, Nat.reduceAdd, Nat.reduceSub, List.getElem?_cons_zero, List.getElem?_cons_succ, Option.bind_some, List.set_cons_zero, List.set_cons_succ, List.map_cons, List.map_nil, List.any_cons, List.any_nil, List.getD_cons_zero, List.getD_cons_succ, true_or, or_true, true_and, and_true, Bool.and_true, Bool.true_and, Bool.or_false, Bool.false_or, Bool.not_false, Bool.not_true, Bool.or_true, Bool.true_or, decide_true, decide_false, wFor, wRng1, wRng2, wLc, wSeqI, items, wEnumX, wCallO, wNever, noOwn, List.all_cons, List.all_nil, wipeS, Bool.and_self, decide_eq_true_eq, atI0a, atI0b, atI0c, atI1b, atI1c, atI2c]
    by_cases c1 : x ≠ d + y
    · rw [decide_eq_true c1, Bool.true_and] at h
      simp only [decide_eq_true c1, wSeq, wNext, wIfS, wSetF, wSet, into, wSetIx, wRet, wRetN, wDrop, wB, wBin, wUn, wCB, wCons, wNil, wVar, wC, wIf, wAnd, wOr, wNot, wAndV, wOrV, wNotV, wTup, wLst, wSl, wNoPart, wPart, wChain, wUnp, wgTup, wgCons, wgNil, wName, wIsi, wListRg, wRg1, wRg2, wTupRg, wPuts, puts, Rz.sd, wConsH, wAppend, wExtend, ownL, dI, dI0, dIx, dInt, dAbs, dLen, dMax2, dMin2, dSum, dAll, dAny, dList, dTuple, dAdd, dNeg, dIsN, dNotN, PD.isN, dSl, look, looks, ok, Rz.pd, SD.pd, OD.pd, Rz.cold, Rz.cool, warm, pdsOf, frz, frzAll, leave, argOf, onceB, newBor, isBor, ty_non, ty_bl, ty_int, ty_str, ty_lst, ty_scr, ty_tup, ty_dct, isa, String.reduceBEq, beq_self_eq_true, Bool.false_and, Bool.and_false, Bool.not_true, Bool.or_self, wYes, wCall, backS_0, backS_1, backS_2, backS_3, backS_4, backS_o0, backS_o1, backS_o2, backS_o3, dEq_int, dEq_str, dNeX_int, dNeX_str, List.length_cons, List.length_nil, List.cons_append, List.nil_append, List.replicate, Nat.reduceAdd, Nat.reduceSub, List.getElem?_cons_zero, List.getElem?_cons_succ, Option.bind_some, List.set_cons_zero, List.set_cons_succ, List.map_cons, List.map_nil, List.any_cons, List.any_nil, List.getD_cons_zero, List.getD_cons_succ, true_or, or_true, true_and, and_true, Bool.and_true, Bool.true_and, Bool.or_false, Bool.false_or, Bool.not_false, Bool.not_true, Bool.or_true, Bool.true_or, decide_true, decide_false, wFor, wRng1, wRng2, wLc, wSeqI, items, wEnumX, wCallO, wNever, noOwn, List.all_cons, List.all_nil, wipeS, Bool.and_self, decide_eq_true_eq, atI0a, atI0b, atI0c, atI1b, atI1c, atI2c]
      by_cases c3 : 0 < d
      · rw [decide_eq_true c3, Bool.true_or] at h
        simp only [decide_eq_true c3, wSeq, wNext, wIfS, wSetF, wSet, into, wSetIx, wRet, wRetN, wDrop, wB, wBin, wUn, wCB, wCons, wNil, wVar, wC, wIf, wAnd, wOr, wNot, wAndV, wOrV, wNotV, wTup, wLst, wSl, wNoPart, wPart, wChain, wUnp, wgTup, wgCons, wgNil, wName, wIsi, wListRg, wRg1, wRg2, wTupRg, wPuts, puts, Rz.sd, wConsH, wAppend, wExtend, ownL, dI, dI0, dIx, dInt, dAbs, dLen, dMax2, dMin2, dSum, dAll, dAny, dList, dTuple, dAdd, dNeg, dIsN, dNotN, PD.isN, dSl, look, looks, ok, Rz.pd, SD.pd, OD.pd, Rz.cold, Rz.cool, warm, pdsOf, frz, frzAll, leave, argOf, onceB, newBor, isBor, ty_non, ty_bl, ty_int, ty_str, ty_lst, ty_scr, ty_tup, ty_dct, isa, String.reduceBEq, beq_self_eq_true, Bool.false_and, Bool.and_false, Bool.not_true, Bool.or_self, wYes, wCall, backS_0, backS_1, backS_2, backS_3, backS_4, backS_o0, backS_o1, backS_o2, backS_o3, dEq_int, dEq_str, dNeX_int, dNeX_str, List.length_cons, List.length_nil, List.cons_append, List.nil_append, List.replicate, Nat.reduceAdd, Nat.reduceSub, List.getElem?_cons_zero, List.getElem?_cons_succ, Option.bind_some, List.set_cons_zero, List.set_cons_succ, List.map_cons, List.map_nil, List.any_cons, List.any_nil, List.getD_cons_zero, List.getD_cons_succ, true_or, or_true, true_and, and_true, Bool.and_true, Bool.true_and, Bool.or_false, Bool.false_or, Bool.not_false, Bool.not_true, Bool.or_true, Bool.true_or, decide_true, decide_false, wFor, wRng1, wRng2, wLc, wSeqI, items, wEnumX, wCallO, wNever, noOwn, List.all_cons, List.all_nil, wipeS, Bool.and_self, decide_eq_true_eq, atI0a, atI0b, atI0c, atI1b, atI1c, atI2c]; exact h
      · rw [decide_eq_false c3, Bool.false_or] at h
        simp only [decide_eq_false c3, wSeq, wNext, wIfS, wSetF, wSet, into, wSetIx, wRet, wRetN, wDrop, wB, wBin, wUn, wCB, wCons, wNil, wVar, wC, wIf, wAnd, wOr, wNot, wAndV, wOrV, wNotV, wTup, wLst, wSl, wNoPart, wPart, wChain, wUnp, wgTup, wgCons, wgNil, wName, wIsi, wListRg, wRg1, wRg2, wTupRg, wPuts, puts, Rz.sd, wConsH, wAppend, wExtend, ownL, dI, dI0, dIx, dInt, dAbs, dLen, dMax2, dMin2, dSum, dAll, dAny, dList, dTuple, dAdd, dNeg, dIsN, dNotN, PD.isN, dSl, look, looks, ok, Rz.pd, SD.pd, OD.pd, Rz.cold, Rz.cool, warm, pdsOf, frz, frzAll, leave, argOf, onceB, newBor, isBor, ty_non, ty_bl, ty_int, ty_str, ty_lst, ty_scr, ty_tup, ty_dct, isa, String.reduceBEq, beq_self_eq_true, Bool.false_and, Bool.and_false, Bool.not_true, Bool.or_self, wYes, wCall, backS_0, backS_1, backS_2, backS_3, backS_4, backS_o0, backS_o1, backS_o2, backS_o3, dEq_int, dEq_str, dNeX_int, dNeX_str, List.length_cons, List.length_nil, List.cons_append, List.nil_append, List.replicate, Nat.reduceAdd, Nat.reduceSub, List.getElem?_cons_zero, List.getElem?_cons_succ, Option.bind_some, List.set_cons_zero, List.set_cons_succ, List.map_cons, List.map_nil, List.any_cons, List.any_nil, List.getD_cons_zero, List.getD_cons_succ, true_or, or_true, true_and, and_true, Bool.and_true, Bool.true_and, Bool.or_false, Bool.false_or, Bool.not_false, Bool.not_true, Bool.or_true, Bool.true_or, decide_true, decide_false, wFor, wRng1, wRng2, wLc, wSeqI, items, wEnumX, wCallO, wNever, noOwn, List.all_cons, List.all_nil, wipeS, Bool.and_self, decide_eq_true_eq, atI0a, atI0b, atI0c, atI1b, atI1c, atI2c]; exact h
    · rw [decide_eq_false c1, Bool.false_and] at h
      simp only [decide_eq_false c1, wSeq, wNext, wIfS, wSetF, wSet, into, wSetIx, wRet, wRetN, wDrop, wB, wBin, wUn, wCB, wCons, wNil, wVar, wC, wIf, wAnd, wOr, wNot, wAndV, wOrV, wNotV, wTup, wLst, wSl, wNoPart, wPart, wChain, wUnp, wgTup, wgCons, wgNil, wName, wIsi, wListRg, wRg1, wRg2, wTupRg, wPuts, puts, Rz.sd, wConsH, wAppend, wExtend, ownL, dI, dI0, dIx, dInt, dAbs, dLen, dMax2, dMin2, dSum, dAll, dAny, dList, dTuple, dAdd, dNeg, dIsN, dNotN, PD.isN, dSl, look, looks, ok, Rz.pd, SD.pd, OD.pd, Rz.cold, Rz.cool, warm, pdsOf, frz, frzAll, leave, argOf, onceB, newBor, isBor, ty_non, ty_bl, ty_int, ty_str, ty_lst, ty_scr, ty_tup, ty_dct, isa, String.reduceBEq, beq_self_eq_true, Bool.false_and, Bool.and_false, Bool.not_true, Bool.or_self, wYes, wCall, backS_0, backS_1, backS_2, backS_3, backS_4, backS_o0, backS_o1, backS_o2, backS_o3, dEq_int, dEq_str, dNeX_int, dNeX_str, List.length_cons, List.length_nil, List.cons_append, List.nil_append, List.replicate, Nat.reduceAdd, Nat.reduceSub, List.getElem?_cons_zero, List.getElem?_cons_succ, Option.bind_some, List.set_cons_zero, List.set_cons_succ, List.map_cons, List.map_nil, List.any_cons, List.any_nil, List.getD_cons_zero, List.getD_cons_succ, true_or, or_true, true_and, and_true, Bool.and_true, Bool.true_and, Bool.or_false, Bool.false_or, Bool.not_false, Bool.not_true, Bool.or_true, Bool.true_or, decide_true, decide_false, wFor, wRng1, wRng2, wLc, wSeqI, items, wEnumX, wCallO, wNever, noOwn, List.all_cons, List.all_nil, wipeS, Bool.and_self, decide_eq_true_eq, atI0a, atI0b, atI0c, atI1b, atI1c, atI2c]; exact h
/-! ### enumerated -/
end DL

set_option Elab.async false
set_option linter.all false
set_option maxRecDepth 100000
set_option maxHeartbeats 4000000
namespace DL
open PySem L2
/-! ### loops, by what stands ahead of turn k -/
theorem forL_upto {wg : Wg} {wb : Ws} {O : On} (I : Nat → Sl → Prop) : ∀ (ds : List PD) (k : Nat) (ρ : Sl), I k ρ →
    (∀ (j : Nat) (d : PD) (ρ : Sl) (N : Sl → Prop), ds[j]? = some d → I (k + j) ρ → (∀ ρ', I (k + j + 1) ρ' → N ρ') → wg d ρ fun ρ' => wb { nx := N, rt := O.rt, bk := O.nx, ct := N } ρ') →
    (∀ ρ, I (k + ds.length) ρ → O.nx ρ) → forL wg wb ds O ρ
  | [], k, ρ, hI, _, ho => ho ρ hI
  | d :: ds, k, ρ, hI, h, ho => h 0 d ρ _ rfl hI fun ρ' h' => forL_upto I ds (k + 1) ρ' h' (fun j d' ρ N hj hI' hN => h (j + 1) d' ρ N (by simpa using hj) (by
        have e : k + (j + 1) = k + 1 + j := by omega
        rw [e]; exact hI') (fun ρ' q => hN ρ' (by
        have e : k + 1 + j + 1 = k + (j + 1) + 1 := by omega
        rw [e]; exact q)))
      (fun ρ q => ho ρ (by
        have e : k + (d :: ds).length = k + 1 + ds.length := by rw [List.length_cons]; omega
        rw [e]; exact q))
theorem compL_upto {vs : List Nat} {wg : Wg} {wt : Wt} {we : We} {Q : List PD → Sl → Prop} (I : Nat → List PD → Sl → Prop) : ∀ (ds : List PD) (k : Nat) (acc : List PD) (ρ : Sl), I k acc ρ →
    (∀ (j : Nat) (d : PD) (acc : List PD) (ρ : Sl) (N : List PD → Sl → Prop), ds[j]? = some d → I (k + j) acc ρ → (∀ acc' ρ', I (k + j + 1) acc' ρ' → N acc' ρ') → wg d ρ fun ρ' => wt ρ' fun b ρ2 => match b with
      | true => we ρ2 fun r ρ3 => warm r ρ3 ∧ frz [r.cool] ρ3 fun es ρ4 => match es with
        | [y] => acc.length < sizeLine ∧ N (acc ++ [y]) (wipeS ρ4 vs)
        | _ => False
      | false => N acc (wipeS ρ2 vs)) →
    (∀ acc ρ, I (k + ds.length) acc ρ → Q acc ρ) → compL vs wg wt we ds acc Q ρ
  | [], k, acc, ρ, hI, _, ho => ho acc ρ hI
  | d :: ds, k, acc, ρ, hI, h, ho => h 0 d acc ρ (fun acc' ρ' => compL vs wg wt we ds acc' Q ρ') rfl hI fun acc' ρ' h' => compL_upto I ds (k + 1) acc' ρ' h' (fun j d' acc ρ N hj hI' hN => h (j + 1) d' acc ρ N (by simpa using hj) (by
        have e : k + (j + 1) = k + 1 + j := by omega
        rw [e]; exact hI') (fun acc' ρ' q => hN acc' ρ' (by
        have e : k + 1 + j + 1 = k + (j + 1) + 1 := by omega
        rw [e]; exact q)))
      (fun acc ρ q => ho acc ρ (by
        have e : k + (d :: ds).length = k + 1 + ds.length := by rw [List.length_cons]; omega
        rw [e]; exact q))
end DL

set_option Elab.async false
set_option linter.all false
set_option maxRecDepth 100000
set_option maxHeartbeats 4000000
set_option exponentiation.threshold 3000
namespace DL
open PySem L2
/-! ### what every law's data side uses (taken over from the texts of k25, k26) -/
theorem seq_by {a b : Ws} {O : On} {ρ : Sl} (I : Sl → Prop) (h : ∀ N : Sl → Prop, (∀ ρ', I ρ' → N ρ') → a { O with nx := N } ρ) (h' : ∀ ρ', I ρ' → b O ρ') : wSeq a b O ρ := h (b O) h'
theorem backS_h0 {o : OD} {ρ as : Sl} : backS (.own o :: ρ) [.bor 0] as = as.getD 0 .emp :: ρ := by rw [backS_o0 (o := o) rfl]; rfl
theorem backS_h1 {o : OD} {ρ as : Sl} {a : PD} : backS (.own o :: ρ) [.bor 0, .dat a] as = as.getD 0 .emp :: ρ := by rw [backS_o1 (o := o) rfl]; rfl
theorem seq_to {a b : Ws} {O : On} {ρ ρ' : Sl} (h : ∀ N : Sl → Prop, N ρ' → a { O with nx := N } ρ) (h' : b O ρ') : wSeq a b O ρ := h (b O) h'
theorem rg_at {n k : Nat} {d : PD} (h : (rgP 0 n)[k]? = some d) : d = .int (k : Int) ∧ k < n := by
  unfold rgP at h
  rw [List.getElem?_map] at h
  have hk : k < n := by
    cases q : (List.range n)[k]? with
    | none => rw [q] at h; cases h
    | some i => have := (List.getElem?_eq_some_iff.mp q).1; rw [List.length_range] at this; exact this
  rw [List.getElem?_range hk] at h
  refine ⟨?_, hk⟩
  have := (Option.some.inj h).symm
  rw [this]
  simp
theorem rg_len {n : Nat} : (rgP 0 n).length = n := by unfold rgP; rw [List.length_map, List.length_range]
def unI : PD → Int
  | .int i => i
  | _ => 0
theorem compL_same {vs : List Nat} {wg : Wg} {wt : Wt} {we : We} {g : PD → PD} {ρ : Sl} {Q : List PD → Sl → Prop} {ds : List PD} (hz : ds.length < 100000)
    (h : ∀ d ∈ ds, ∀ (acc : List PD) (N : List PD → Sl → Prop), acc.length < sizeLine → N (acc ++ [g d]) ρ → wg d ρ fun ρ' => wt ρ' fun b ρ2 => match b with
      | true => we ρ2 fun r ρ3 => warm r ρ3 ∧ frz [r.cool] ρ3 fun es ρ4 => match es with
        | [y] => acc.length < sizeLine ∧ N (acc ++ [y]) (wipeS ρ4 vs)
        | _ => False
      | false => N acc (wipeS ρ2 vs)) (hQ : Q (ds.map g) ρ) : compL vs wg wt we ds [] Q ρ := by
  refine compL_upto (fun k acc ρ' => ρ' = ρ ∧ acc = (ds.take k).map g) ds 0 [] ρ ⟨rfl, rfl⟩ (fun j d acc ρ' N hj hI hN => ?_) (fun acc ρ' hI => ?_)
  · obtain ⟨rfl, rfl⟩ := hI
    have hjl := (List.getElem?_eq_some_iff.mp hj).1
    refine h d (List.mem_of_getElem? hj) _ N (by rw [List.length_map, List.length_take]; exact sz' (by omega)) (hN _ _ ⟨rfl, ?_⟩)
    rw [Nat.zero_add, List.take_add_one, hj, List.map_append]
    rfl
  · obtain ⟨rfl, rfl⟩ := hI
    rw [Nat.zero_add, List.take_length]
    exact hQ
def tf (b : Bool) : Str := if b then "True" else "False"
end DL

set_option Elab.async false
set_option linter.all false
set_option maxRecDepth 100000
set_option maxHeartbeats 4000000
set_option exponentiation.threshold 3000
namespace DL
open PySem L2
/-- a right that is asked for several times with one pot: it draws M times at most -/
def RightMore (M : Int) (F : Fd) : Prop := ∀ (m : Int) (s : SD) (Q : Rz → Sl → Prop), 0 ≤ m → m ≤ 1000000 → Pot m s → (∀ s', Pot (m + M) s' → Q (.dat (.bl true)) [s']) → F [s] Q noX
def wLawB (n L : Int) (Fp Fr : Fd) : Ws := (wSeq (wFor (wSeqI (wCall 2 FCells noX (wCons (wVar 0) (wCons (wC (.int n)) wNil)))) (wName 1) (wSeq (wSet 2 (wCall 2 Fp noX (wCons (wVar 0) (wCons (wVar 1) wNil))))
  (wIfS (DL.wNot (wB (wCB dAll (wCons (wLc [3] (wRng1 (wCons (wC (.int L)) wNil)) (wName 3) wYes (wCall 1 Fr noX (wCons (wVar 2) wNil))) wNil)))) (wRet (wC (.bl false))) wNext)))
  (wRet (wC (.bl true))))
end DL

set_option Elab.async false
set_option linter.all false
set_option maxRecDepth 100000
set_option maxHeartbeats 4000000
set_option exponentiation.threshold 3000
namespace DL
open PySem L2
end DL

set_option Elab.async false
set_option linter.all false
set_option maxRecDepth 100000
set_option maxHeartbeats 4000000
set_option exponentiation.threshold 3000
namespace DL
open PySem L2
def wTak4 (A B C D : Int) : Ws := (wSeq (wIfS (wB (wBin (dI0 fun i j => .bl (decide (j < i))) (wBin dIx (wVar 0) (wC (.int 0))) (wC (.int 0)))) (wSeq (wSetF 4 (wBin (dI CPos fun i j => .int (i % j)) (wCB dInt (wCons (wBin dIx (wVar 0) (wC (.int 0))) wNil)) (wVar 1)))
  (wSeq (wSetIx 0 (wBin (dI CDivW fun i j => .int (i / j)) (wBin dIx (wVar 0) (wC (.int 0))) (wVar 1)) (wC (.int 0)))
  (wRet (wVar 4)))) wNext)
  (wSeq (wSetIx 0 (wBin dAdd (wBin dIx (wVar 0) (wC (.int 2))) (wC (.int 1))) (wC (.int 2)))
  (wSeq (wSetF 2 (wBin dIx (wLst (wCons (wC (.int 2147483647)) (wCons (wC (.int 2147483629)) (wCons (wC (.int 2147483587)) (wCons (wC (.int 2147483579)) (wCons (wC (.int 2147483563)) wNil)))))) (wBin (dI CPos fun i j => .int (i % j)) (wCB dInt (wCons (wBin dIx (wVar 0) (wC (.int 2))) wNil)) (wC (.int 5)))))
  (wSeq (wSetF 3 (wBin (dI CPos fun i j => .int (i % j)) (wCB dInt (wCons (wBin (dI CPowX fun i j => .int (i ^ j.toNat)) (wCB dInt (wCons (wBin dAdd (wBin dAdd (wBin dIx (wVar 0) (wC (.int 1))) (wBin (dI CMulX fun i j => .int (i * j)) (wBin (dI CMulX fun i j => .int (i * j)) (wC (.int A)) (wBin dIx (wVar 0) (wC (.int 2)))) (wBin dIx (wVar 0) (wC (.int 2))))) (wC (.int B))) wNil)) (wC (.int 3))) wNil)) (wVar 2)))
  (wSeq (wSetF 3 (wBin (dI CPos fun i j => .int (i % j)) (wCB dInt (wCons (wBin (dI CMulX fun i j => .int (i * j)) (wVar 3) (wBin dAdd (wBin (dI CPos fun i j => .int (i % j)) (wCB dInt (wCons (wVar 3) wNil)) (wC (.int C))) (wBin (dI CMulX fun i j => .int (i * j)) (wC (.int D)) (wBin dIx (wVar 0) (wC (.int 2)))))) wNil)) (wC (.int 2305843009213693907))))
  (wRet (wBin (dI CPos fun i j => .int (i % j)) (wCB dInt (wCons (wBin (dI CDivW fun i j => .int (i / j)) (wVar 3) (wC (.int 173))) wNil)) (wVar 1))))))))
def FTak4 (A B C D : Int) : Fd := mkF (pin [0, 1]) 5 (fun _ => wTak4 A B C D)
/-- the numbers of a pot are small -/
def AB4 (A B C D : Int) : Prop := 0 ≤ A ∧ A ≤ 1000000 ∧ 0 ≤ B ∧ B ≤ 1000000 ∧ 0 < C ∧ C ≤ 1000000 ∧ 0 ≤ D ∧ D ≤ 1000000
def wOf4 (A B C D : Int) : Ws := (wRet (wBin dIx (wVar 1) (wCall 2 (FTak4 A B C D) noX (wCons (wVar 0) (wCons (wCB dLen (wCons (wVar 1) wNil)) wNil)))))
def FOf4 (A B C D : Int) : Fd := mkF (pin [0, 1]) 2 (fun _ => wOf4 A B C D)
end DL

set_option Elab.async false
set_option linter.all false
set_option maxRecDepth 100000
set_option maxHeartbeats 4000000
set_option exponentiation.threshold 3000
namespace DL
open PySem L2
/-! ### repr of small data -/
theorem sok_of (s : String) : PyData.strOk (Str.ofString s) = true := by
  rw [Str.ofString_eq_toList]
  unfold PyData.strOk
  simp only [List.all_toArray, List.all_map, List.all_eq_true]
  intro c _
  have h := c.valid
  have : c.toNat < 0x110000 := by
    rcases h with h | ⟨_, h⟩
    · exact Nat.lt_trans h (by decide)
    · exact h
  simpa using this
theorem sok_app {a b : Str} (h : PyData.strOk a = true) (h' : PyData.strOk b = true) : PyData.strOk (a ++ b) = true := by
  unfold PyData.strOk at *
  show (a.cps ++ b.cps).all _ = true
  simp only [Array.all_append, h, h', Bool.and_self]
theorem sok_join {sep : Str} (hs : PyData.strOk sep = true) : ∀ {ts : List Str}, (∀ t ∈ ts, PyData.strOk t = true) → PyData.strOk (Str.join sep ts) = true
  | [], _ => by simp [Str.join, PyData.strOk, Str.empty]
  | [x], h => h x List.mem_cons_self
  | x :: y :: r, h => by
    show PyData.strOk (x ++ sep ++ Str.join sep (y :: r)) = true
    exact sok_app (sok_app (h x List.mem_cons_self) hs) (sok_join hs fun t ht => h t (List.mem_cons_of_mem _ ht))
theorem sok_from : ∀ {ts : List Str} (k : Nat) (acc : Str), PyData.strOk acc = true → (∀ t ∈ ts, PyData.strOk t = true) → PyData.strOk (textFrom k acc ts) = true
  | [], k, acc, h, _ => h
  | t :: ts, k, acc, h, hs => by
    unfold textFrom
    exact sok_from (k + 1) _ (sok_app (sok_app h (sok_of _)) (hs t List.mem_cons_self)) fun t' ht => hs t' (List.mem_cons_of_mem _ ht)
theorem sok_list {ts : List Str} (h : ∀ t ∈ ts, PyData.strOk t = true) : PyData.strOk (listText ts) = true := sok_app (sok_from 0 _ (sok_of _) h) (sok_of _)
theorem sok_tuple {ts : List Str} (h : ∀ t ∈ ts, PyData.strOk t = true) : PyData.strOk (tupleText ts) = true := by
  unfold tupleText
  refine sok_app (sok_app (sok_of _) (sok_join (sok_of _) h)) ?_
  split <;> exact sok_of _
/-- a word whose repr is short -/
def niceS (s : Str) : Bool := PyData.strOk s && PyData.strOk (reprText s) && decide ((reprText s).length ≤ 60)
mutual
def nice : PD → Bool
  | .non => true
  | .bl _ => true
  | .int i => decide (i.natAbs < 10 ^ 40)
  | .str s => niceS s
  | .lst xs => niceAll xs
  | .tup xs => niceAll xs
  | .scr _ => false
  | .dct _ => false
  | .ins _ _ => false
  | .err _ _ => false
  | .fn _ _ => false
def niceAll : List PD → Bool
  | [] => true
  | x :: xs => nice x && niceAll xs
end
mutual
/-- how many parts -/
def nodes : PD → Nat
  | .lst xs => nodesAll xs + 1
  | .tup xs => nodesAll xs + 1
  | .non => 1
  | .bl _ => 1
  | .int _ => 1
  | .str _ => 1
  | .scr _ => 1
  | .dct _ => 1
  | .ins _ _ => 1
  | .err _ _ => 1
  | .fn _ _ => 1
def nodesAll : List PD → Nat
  | [] => 0
  | x :: xs => nodes x + nodesAll xs
end
theorem log40 {i : Int} (h : i.natAbs < 10 ^ 40) : i.natAbs.log2 < 1920 := by
  by_cases h0 : i.natAbs = 0
  · rw [h0]; decide
  · refine (Nat.log2_lt h0).mpr (Nat.lt_of_lt_of_le h ?_)
    exact Nat.le_trans (show 10 ^ 40 ≤ 2 ^ 140 by decide +kernel) (Nat.pow_le_pow_right (by decide) (by decide))
theorem shown_int40 {i : Int} (h : i.natAbs < 10 ^ 40) : (PyData.shown (.int i)).length ≤ 41 := by
  have e := int_text_length_le10 (k := 40) (by decide) h
  show (Str.ofString (toString i)).length ≤ 41
  rw [ofString_length]; exact e
mutual
theorem nice_ok : ∀ {d : PD}, nice d = true → d.plain = true ∧ d.py.showable = true ∧ d.py.hasDict = false ∧ d.py.shown.length + 2 ≤ 62 * nodes d ∧ PyData.strOk d.py.shown = true
  | .non, _ => ⟨rfl, by simp [PD.py, PyData.showable], by simp [PD.py, PyData.hasDict], by simp only [PD.py, PyData.shown, nodes]; decide, by simp only [PD.py, PyData.shown]; exact sok_of _⟩
  | .bl b, _ => ⟨rfl, by simp [PD.py, PyData.showable], by simp [PD.py, PyData.hasDict], by simp only [PD.py, PyData.shown, nodes]; cases b <;> decide, by simp only [PD.py, PyData.shown]; cases b <;> exact sok_of _⟩
  | .int i, h => by
    have h : i.natAbs < 10 ^ 40 := by simpa [nice] using h
    refine ⟨rfl, by simp [PD.py, PyData.showable, log40 h], by simp [PD.py, PyData.hasDict], ?_, by simp only [PD.py, PyData.shown]; exact sok_of _⟩
    have := shown_int40 h
    simp only [PD.py, nodes]
    omega
  | .str s, h => by
    have h : (PyData.strOk s && PyData.strOk (reprText s) && decide ((reprText s).length ≤ 60)) = true := h
    simp only [Bool.and_eq_true, decide_eq_true_eq] at h
    refine ⟨rfl, by simp [PD.py, PyData.showable], by simp [PD.py, PyData.hasDict], ?_, by simp only [PD.py, PyData.shown]; exact h.1.2⟩
    simp only [PD.py, PyData.shown, nodes]
    omega
  | .lst xs, h => by
    have h : niceAll xs = true := h
    obtain ⟨h1, h2, h3, h4, h5⟩ := niceAll_ok h
    refine ⟨by simp only [PD.plain]; exact h1, by simp only [PD.py, PyData.showable]; exact h2, by simp only [PD.py, PyData.hasDict]; exact h3, ?_, by simp only [PD.py, PyData.shown]; exact sok_list h5⟩
    have := listText_len_le (PyData.shownAll (pyAll xs))
    simp only [PD.py, PyData.shown, nodes]
    omega
  | .tup xs, h => by
    have h : niceAll xs = true := h
    obtain ⟨h1, h2, h3, h4, h5⟩ := niceAll_ok h
    refine ⟨by simp only [PD.plain]; exact h1, by simp only [PD.py, PyData.showable]; exact h2, by simp only [PD.py, PyData.hasDict]; exact h3, ?_, by simp only [PD.py, PyData.shown]; exact sok_tuple h5⟩
    have := tupleText_len_le (PyData.shownAll (pyAll xs))
    simp only [PD.py, PyData.shown, nodes]
    omega
  | .scr _, h => by cases h
  | .dct _, h => by cases h
  | .ins _ _, h => by cases h
  | .err _ _, h => by cases h
  | .fn _ _, h => by cases h
theorem niceAll_ok : ∀ {xs : List PD}, niceAll xs = true → plainAll xs = true ∧ PyData.showableAll (pyAll xs) = true ∧ PyData.hasDictAll (pyAll xs) = false ∧ ((PyData.shownAll (pyAll xs)).map (·.length)).sum + 2 * (PyData.shownAll (pyAll xs)).length ≤ 62 * nodesAll xs ∧ ∀ t ∈ PyData.shownAll (pyAll xs), PyData.strOk t = true
  | [], _ => ⟨rfl, by simp [pyAll, PyData.showableAll], by simp [pyAll, PyData.hasDictAll], by simp [pyAll, PyData.shownAll, nodesAll], fun t h => by simp [pyAll, PyData.shownAll] at h⟩
  | x :: xs, h => by
    have h : (nice x && niceAll xs) = true := h
    obtain ⟨ha, hb⟩ := Bool.and_eq_true_iff.mp h
    obtain ⟨a1, a2, a3, a4, a5⟩ := nice_ok ha
    obtain ⟨b1, b2, b3, b4, b5⟩ := niceAll_ok hb
    refine ⟨by simp only [plainAll, a1, b1, Bool.and_self], by simp only [pyAll, PyData.showableAll, a2, b2, Bool.and_self], by simp only [pyAll, PyData.hasDictAll, a3, b3, Bool.or_self], ?_, fun t ht => ?_⟩
    · simp only [pyAll, PyData.shownAll, List.map_cons, List.sum_cons, List.length_cons, nodesAll]
      omega
    · simp only [pyAll, PyData.shownAll, List.mem_cons] at ht
      rcases ht with rfl | ht
      · exact a5
      · exact b5 t ht
end
end DL

set_option Elab.async false
set_option linter.all false
set_option maxRecDepth 100000
set_option maxHeartbeats 4000000
namespace DL
open PySem L2
theorem nice_int {i : Int} (h : i.natAbs < 1000000000000000000000000) : nice (.int i) = true := by
  simp only [nice, decide_eq_true_eq]
  exact Nat.lt_trans h (by decide)
theorem nice3 {a b c : PD} (ha : nice a = true) (hb : nice b = true) (hc : nice c = true) : nice (.tup [a, b, c]) = true := by simp only [nice, niceAll, ha, hb, hc, Bool.and_self]
theorem deep3 {i j k : Int} : (PD.tup [.int i, .int j, .int k]).py.depth ≤ 60 := by simp [PD.py, pyAll, PyData.depth, PyData.depthAll]
theorem nodes3 {i j k : Int} : nodes (.tup [.int i, .int j, .int k]) ≤ 10000 := by simp [nodes, nodesAll]
end DL
namespace Fa
open PySem L2 DL
end Fa

set_option Elab.async false
set_option linter.all false
set_option maxRecDepth 100000
set_option maxHeartbeats 4000000
namespace DL
open PySem L2
/-! ### devices: stages, lines, texts -/
/-- the lengths of a stage -/
def Stg (ls : List Int) : Prop := 2 ≤ ls.length ∧ ls.length ≤ 4 ∧ (∀ x ∈ ls, 0 ≤ x ∧ x ≤ 1000000) ∧ ls.Nodup
def Stgs (sts : List (List Int)) : Prop := 1 ≤ sts.length ∧ sts.length ≤ 6 ∧ ∀ ls ∈ sts, Stg ls
abbrev bsP (ns : List Int) : PD := .tup (ns.map .int)
abbrev stP (sts : List (List Int)) : PD := .tup (sts.map bsP)
def wIsStage : Ws := (wSeq (wIfS (wOr (wNot (wB (wIsi "tuple" (wVar 0)))) (wNot (wB (wChain (dI0 fun i j => .bl (decide (i ≤ j))) (dI0 fun i j => .bl (decide (i ≤ j))) (wC (.int 2)) (wCB dLen (wCons (wVar 0) wNil)) (wC (.int 4)))))) (wRet (wC (.bl false))) wNext)
  (wSeq (wIfS (wNot (wB (wCB dAll (wCons (wLc [1] (wSeqI (wVar 0)) (wName 1) wYes (wCall 3 FIsWithin noX (wCons (wVar 1) (wCons (wC (.int 0)) (wCons (wC (.int 1000000)) wNil))))) wNil)))) (wRet (wC (.bl false))) wNext)
  (wRet (wBin dEq (wLenSetT (wVar 0)) (wCB dLen (wCons (wVar 0) wNil))))))
def FIsStage : Fd := mkF (pin [0]) 2 (fun _ => wIsStage)
/-! ### numbers in texts -/
abbrev numS (n : Int) : Str := ((toString n : String) : Str)
def wReadNumber : Ws := (wSeq (wIfS (wOr (wNot (wAnd (wB (wStrP Txt.isascii (wVar 0))) (wB (wStrP Txt.isdigit (wVar 0))))) (wB (wBin (dI0 fun i j => .bl (decide (j < i))) (wCB dLen (wCons (wVar 0) wNil)) (wC (.int 9))))) (wRet (wC .non)) wNext)
  (wSeq (wSetF 1 (wCB dIntS (wCons (wVar 0) wNil)))
  (wRet (wIf (wB (wBin dEq (wCB dStr (wCons (wVar 1) wNil)) (wVar 0))) (wVar 1) (wC .non)))))
def FReadNumber : Fd := mkF (pin [0]) 2 (fun _ => wReadNumber)
/-! ### lines -/
def wordsOf (ls : List Int) : List Str := ("stage" : Str) :: ls.map numS
def lineOf (ls : List Int) : Str := Txt.join (" " : Str) (wordsOf ls)
def devText (sts : List (List Int)) : Str := Txt.join ("\n" : Str) (sts.map lineOf)
end DL

set_option Elab.async false
set_option linter.all false
set_option maxRecDepth 100000
set_option maxHeartbeats 4000000
namespace DL
open PySem L2
/-! ### a line read, a text read, a text written -/
def wReadLengths : Ws := (wSeq (wSetF 1 (wSplit (wVar 0) (wC (.str " "))))
  (wSeq (wIfS (wB (wBin dNeX (wBin dIx (wVar 1) (wC (.int 0))) (wC (.str "stage")))) (wRet (wC .non)) wNext)
  (wSeq (wSetF 2 (wCB dTuple (wCons (wLc [3] (wSeqI (wSl (wVar 1) (wPart (wC (.int 1))) wNoPart)) (wName 3) wYes (wCall 1 FReadNumber noX (wCons (wVar 3) wNil))) wNil)))
  (wRet (wIf (wB (wCall 1 FIsStage noX (wCons (wVar 2) wNil))) (wVar 2) (wC .non))))))
def FReadLengths : Fd := mkF (pin [0]) 4 (fun _ => wReadLengths)
/-- the number that a word tells -/
def numW : PD → PD
  | .str w => match PySem.intText? w with
    | some n => .int n
    | none => .non
  | _ => .non
def wReadStages (R0 R1 : Ws) : Ws := (wSeq (wIfS (wNot (wB (wIsi "str" (wVar 0)))) R0 wNext)
  (wSeq (wSet 1 (wLst wNil))
  (wSeq (wFor (wEnumS 1 (wCons (wSplit (wVar 0) (wC (.str "\n"))) wNil)) (wgTup 2 (wgCons (wName 2) (wgCons (wName 3) wgNil))) (wSeq (wSetF 4 (wCall 1 FReadLengths noX (wCons (wVar 3) wNil)))
  (wSeq (wIfS (wOr (wB (wBin dIsN (wVar 4) (wC .non))) (wB (wBin (dI0 fun i j => .bl (decide (j < i))) (wVar 2) (wC (.int 6))))) R1 wNext)
  (wDrop (wAppend 1 (wCons (wVar 4) wNil))))))
  (wRet (wCB dTuple (wCons (wVar 1) wNil))))))
def FReadStages (R0 R1 : Xp → Ws) : Fd := mkF (pin [0]) 5 (fun Ξ => wReadStages (R0 Ξ) (R1 Ξ))
def wDeviceText (R : Ws) : Ws := (wSeq (wIfS (wOr (wNot (wB (wIsi "tuple" (wVar 0)))) (wNot (wB (wChain (dI0 fun i j => .bl (decide (i ≤ j))) (dI0 fun i j => .bl (decide (i ≤ j))) (wC (.int 1)) (wCB dLen (wCons (wVar 0) wNil)) (wC (.int 6)))))) R wNext)
  (wSeq (wIfS (wNot (wB (wCB dAll (wCons (wLc [1] (wSeqI (wVar 0)) (wName 1) wYes (wCall 1 FIsStage noX (wCons (wVar 1) wNil))) wNil)))) R wNext)
  (wRet (wJoin (wC (.str "\n")) (wLc [1] (wSeqI (wVar 0)) (wName 1) wYes (wJoin (wC (.str " ")) (wBin dAdd (wLst (wCons (wC (.str "stage")) wNil)) (wLc [2] (wSeqI (wVar 1)) (wName 2) wYes (wCB dStr (wCons (wVar 2) wNil))))))))))
def FDeviceText (R : Xp → Ws) : Fd := mkF (pin [0]) 3 (fun Ξ => wDeviceText (R Ξ))
/-- the line of a stage, as a datum -/
def lineD : PD → PD
  | .tup xs => match intsOf xs with
    | some ls => .str (lineOf ls)
    | none => .non
  | _ => .non
def strD1 : PD → PD
  | .int i => .str (numS i)
  | _ => .non
end DL

set_option Elab.async false
set_option linter.all false
set_option maxRecDepth 100000
set_option maxHeartbeats 4000000
namespace DL
open PySem L2
/-! ### devices, rows, rules -/
abbrev devD (C : Addr) (sts : List (List Int)) : PD := .ins C [(("stages" : Str), stP sts), (("text" : Str), .str (devText sts))]
def wDevLen (C : Addr) : Ws := (wRet (wCB dLen (wCons (wFld C "stages" (wVar 0)) wNil)))
def FDevLen (C : Addr) : Fd := mkF (pin [0]) 1 (fun _ => wDevLen C)
def rowB (sts : List (List Int)) (row : List Int) : Bool := decide (row.length = sts.length) && (sts.zip row).all fun p => decide (0 ≤ p.2) && decide (p.2 ≤ (p.1.length : Int) - 1)
def delayOf (sts : List (List Int)) (row : List Int) : Int := ((sts.zip row).map fun p => p.1.getD p.2.toNat 0).sum
def wIsRow (C : Addr) : Ws := (wSeq (wIfS (wOr (wNot (wB (wIsi "tuple" (wVar 1)))) (wB (wBin dNeX (wCB dLen (wCons (wVar 1) wNil)) (wLenO C (FDevLen C) (wVar 0))))) (wRet (wC (.bl false))) wNext)
  (wRet (wCB dAll (wCons (wLc [2, 3] (wZipX (wCons (wFld C "stages" (wVar 0)) (wCons (wVar 1) wNil))) (wgTup 2 (wgCons (wName 2) (wgCons (wName 3) wgNil))) wYes (wCall 3 FIsWithin noX (wCons (wVar 3) (wCons (wC (.int 0)) (wCons (wBin (dI0 fun i j => .int (i - j)) (wCB dLen (wCons (wVar 2) wNil)) (wC (.int 1))) wNil))))) wNil))))
def FIsRow (C : Addr) : Fd := mkF (pin [0, 1]) 4 (fun _ => wIsRow C)
def rowG : PD → PD
  | .tup [.tup xs, .int r] => .bl (decide (0 ≤ r) && decide (r ≤ (xs.length : Int) - 1))
  | _ => .non
def wDelayThrough (C : Addr) : Ws := (wRet (wCB dSumX (wCons (wLc [2, 3] (wZipX (wCons (wFld C "stages" (wVar 0)) (wCons (wVar 1) wNil))) (wgTup 2 (wgCons (wName 2) (wgCons (wName 3) wgNil))) wYes (wBin dIx (wVar 2) (wVar 3))) wNil)))
def FDelayThrough (C : Addr) : Fd := mkF (pin [0, 1]) 4 (fun _ => wDelayThrough C)
def delG : PD → PD
  | .tup [.tup xs, .int r] => xs.getD r.toNat .non
  | _ => .non
def ruleB (sts : List (List Int)) (rows : List (List Int)) : Bool := decide (1 ≤ rows.length) && decide (rows.length ≤ 401) && ((List.range rows.length).all fun i => rowB sts (rows.getD i []) && decide (delayOf sts (rows.getD i []) = (i : Int)))
def wIsRule (C : Addr) : Ws := (wSeq (wIfS (wOr (wNot (wB (wIsi "tuple" (wVar 1)))) (wNot (wB (wChain (dI0 fun i j => .bl (decide (i ≤ j))) (dI0 fun i j => .bl (decide (i ≤ j))) (wC (.int 1)) (wCB dLen (wCons (wVar 1) wNil)) (wBin dAdd (wC (.int 400)) (wC (.int 1))))))) (wRet (wC (.bl false))) wNext)
  (wRet (wCB dAll (wCons (wLc [2, 3] (wEnumX (wCons (wVar 1) wNil)) (wgTup 2 (wgCons (wName 2) (wgCons (wName 3) wgNil))) wYes (wAndV (wCall 2 (FIsRow C) noX (wCons (wVar 0) (wCons (wVar 3) wNil))) (wBin dEq (wCall 2 (FDelayThrough C) noX (wCons (wVar 0) (wCons (wVar 3) wNil))) (wVar 2)))) wNil))))
def FIsRule (C : Addr) : Fd := mkF (pin [0, 1]) 4 (fun _ => wIsRule C)
def rulG (sts : List (List Int)) : PD → PD
  | .tup [.int i, .tup xs] => .bl (rowB sts (xs.map unI) && decide (delayOf sts (xs.map unI) = i))
  | _ => .non
def wRowDelay (C : Addr) (R : Ws) : Ws := (wSeq (wIfS (wNot (wB (wCall 2 (FIsRow C) noX (wCons (wVar 0) (wCons (wVar 1) wNil))))) R wNext)
  (wRet (wCall 2 (FDelayThrough C) noX (wCons (wVar 0) (wCons (wVar 1) wNil)))))
def FRowDelay (C : Addr) (R : Xp → Ws) : Fd := mkF (pin [0, 1]) 2 (fun Ξ => wRowDelay C (R Ξ))
end DL

set_option Elab.async false
set_option linter.all false
set_option maxRecDepth 100000
set_option maxHeartbeats 4000000
set_option exponentiation.threshold 3000
namespace DL
open PySem L2
/-! ### bases, weights, figures -/
/-- the weight of a base -/
def W (ns : List Int) (i : Nat) : Int := (wts ns 1).getD i 0
/-- the lanes of a number, a figure for each stage -/
def figs : List Int → Int → Int → List Int
  | [], _, _ => []
  | b :: bs, p, k => (k / p % b) :: figs bs (p * b) k
/-- the device by figures: for each stage, the lengths of its lanes -/
def ownF : List Int → Int → List (List Int)
  | [], _ => []
  | b :: bs, p => ((List.range b.toNat).map fun (a : Nat) => (a : Int) * p) :: ownF bs (p * b)
/-- the second of a pair of ints, the first -/
def at2 : PD → Int × Int
  | .tup [.int a, .int b] => (a, b)
  | _ => (0, 0)
/-- the product of bases -/
def prodL (ns : List Int) : Int := ns.foldl (· * ·) 1
theorem Bases.tail {b : Int} {bs : List Int} (h : Bases (b :: bs)) : Bases bs := fun x hx => h x (List.mem_cons_of_mem _ hx)
/-- the figures one after another -/
def fw : List Int → Int → List Int
  | [], _ => []
  | b :: bs, k => (k % b) :: fw bs (k / b)
end DL

set_option Elab.async false
set_option linter.all false
set_option maxRecDepth 100000
set_option maxHeartbeats 4000000
namespace DL
open PySem L2
/-! ### rows of ints, rows of rows: their texts -/
end DL

set_option Elab.async false
set_option linter.all false
set_option maxRecDepth 100000
set_option maxHeartbeats 4000000
namespace DL
open PySem L2
/-! ### any lines, any texts read -/
def rdNum (w : Str) : PD := if Txt.isascii w && Txt.isdigit w && decide (w.length ≤ 9) then (match PySem.intText? w with | some n => if numS n = w then .int n else .non | none => .non) else .non
/-- numbers or Nones -/
def NN (ns : List PD) : Prop := ∀ d ∈ ns, d = .non ∨ ∃ n, d = .int n
def stgB (ns : List PD) : Bool := decide (2 ≤ ns.length) && decide (ns.length ≤ 4) && (ns.all fun d => within d 0 1000000) && decide ((ns.map unI).Nodup)
end DL

set_option Elab.async false
set_option linter.all false
set_option maxRecDepth 100000
set_option maxHeartbeats 4000000
namespace DL
open PySem L2
/-- what a line tells -/
def lineRes (line : Str) : PD := match Txt.split line (" " : Str) with
  | [] => .non
  | w :: ws => if w = ("stage" : Str) then (if stgB (ws.map rdNum) then .tup (ws.map rdNum) else .non) else .non
def LineOk (line : Str) : Prop := line.length ≤ 900 ∧ ∀ w ∈ Txt.split line (" " : Str), PyData.strOk w = true ∧ w.length ≤ 10000
def rdW : PD → PD
  | .str w => rdNum w
  | _ => .non
abbrev rNum (C : Addr) : Xp → Ws := fun Ξ => wRaise C Ξ (wCons (wVar 2) wNil)
end DL

set_option Elab.async false
set_option linter.all false
set_option maxRecDepth 100000
set_option maxHeartbeats 4000000
set_option exponentiation.threshold 3000
namespace DL
open PySem L2
/-! ### what the laws draw: some of a pool, lengths of a stage, stages, a device -/
/-- a law's draws: a number below, one of a list -/
structure Drw (T O : Fd) : Prop where
  tk : ∀ {m n : Int} {s : SD} {Q : Rz → Sl → Prop} {Ξ : Xp}, Pot m s → m ≤ 1000000000000 → 0 < n → Sm n → (∀ d s', 0 ≤ d → d < n → Pot (m + 1) s' → Q (.dat (.int d)) [s', .dat (.int n)]) → T [s, .dat (.int n)] Q Ξ
  of : ∀ {m : Int} {s : SD} {xs : List PD} {Q : Rz → Sl → Prop} {Ξ : Xp}, Pot m s → m ≤ 1000000000000 → 0 < xs.length → xs.length ≤ 100000 → (∀ x s', x ∈ xs → Pot (m + 1) s' → Q (.dat x) [s', .dat (.lst xs)]) → O [s, .dat (.lst xs)] Q Ξ
def lsI (ls : List Int) : PD := .lst (ls.map .int)
def wLawSome (T : Fd) : Ws := (wSeq (wPuts [4, 5] (wConsH (wCB dList (wCons (wVar 1) wNil)) (wConsH (wLst wNil) wNil)))
  (wSeq (wFor (wRng1 (wCons (wVar 2) wNil)) (wName 3) (wDrop (wAppend 5 (wCons (wPopAt 4 (wCons (wCall 2 T noX (wCons (wVar 0) (wCons (wCB dLen (wCons (wVar 4) wNil)) wNil))) wNil)) wNil))))
  (wRet (wVar 5))))
def FLawSome (T : Fd) : Fd := mkF (pin [0, 1, 2]) 6 (fun _ => wLawSome T)
end DL

set_option Elab.async false
set_option linter.all false
set_option maxRecDepth 100000
set_option maxHeartbeats 4000000
set_option exponentiation.threshold 3000
namespace DL
open PySem L2
def wLawLengths (T S : Fd) : Ws := (wSeq (wSetF 3 (wListRg (wRg2 (wC (.int 1)) (wBin dAdd (wVar 1) (wC (.int 1))))))
  (wSeq (wSetF 4 (wCall 3 S noX (wCons (wVar 0) (wCons (wVar 3) (wCons (wCB dMin2 (wCons (wVar 1) (wCons (wBin dAdd (wBin dAdd (wC (.int 1)) (wCall 2 T noX (wCons (wVar 0) (wCons (wC (.int 3)) wNil)))) (wCB dInt (wCons (wNotV (wVar 2)) wNil))) wNil))) wNil)))))
  (wSeq (wSetF 4 (wBin dAdd (wLc [5] (wSeqI (wVar 4)) (wName 5) wYes (wCB dInt (wCons (wVar 5) wNil))) (wIf (wB (wVar 2)) (wLst (wCons (wC (.int 0)) wNil)) (wLst wNil))))
  (wRet (wCall 3 S noX (wCons (wVar 0) (wCons (wVar 4) (wCons (wCB dLen (wCons (wVar 4) wNil)) wNil))))))))
def FLawLengths (T S : Fd) : Fd := mkF (pin [0, 1, 2]) 6 (fun _ => wLawLengths T S)
def zT (b : Bool) : Nat := if b then 1 else 0
def zL (b : Bool) : List Int := if b then [0] else []
end DL

set_option Elab.async false
set_option linter.all false
set_option maxRecDepth 100000
set_option maxHeartbeats 4000000
set_option exponentiation.threshold 3000
namespace DL
open PySem L2
def wFigSt (O : Fd) : Ws := (wSeq (wPuts [3, 4] (wConsH (wLst wNil) (wConsH (wC (.int 1)) wNil)))
  (wSeq (wFor (wRng1 (wCons (wVar 1) wNil)) (wName 2) (wSeq (wSetF 5 (wBin dAdd (wC (.int 2)) (wCall 2 O noX (wCons (wVar 0) (wCons (wLst (wCons (wC (.int 0)) (wCons (wC (.int 0)) (wCons (wC (.int 0)) (wCons (wC (.int 1)) (wCons (wC (.int 2)) wNil)))))) wNil)))))
  (wSeq (wDrop (wAppend 3 (wCons (wLc [6] (wRng1 (wCons (wVar 5) wNil)) (wName 6) wYes (wCB dInt (wCons (wBin (dI CMulX fun i j => .int (i * j)) (wVar 6) (wVar 4)) wNil))) wNil)))
  (wSetF 4 (wBin (dI CMulX fun i j => .int (i * j)) (wVar 4) (wVar 5))))))
  (wRet (wVar 3))))
def FFigSt (O : Fd) : Fd := mkF (pin [0, 1]) 7 (fun _ => wFigSt O)
def Rows (xs : List PD) : Prop := ∀ x ∈ xs, ∃ ls, x = lsI ls ∧ Stg ls
def wLawDevice (T S G L : Fd) : Ws := (wSeq (wPuts [3, 4] (wConsH (wBin dAdd (wC (.int 1)) (wCall 2 T noX (wCons (wVar 0) (wCons (wVar 1) wNil)))) (wConsH (wCall 2 T noX (wCons (wVar 0) (wCons (wC (.int 6)) wNil))) wNil)))
  (wSeq (wIfS (wB (wBin (dI0 fun i j => .bl (decide (i < j))) (wVar 4) (wC (.int 4)))) (wSeq (wSet 5 (wCall 2 G noX (wCons (wVar 0) (wCons (wVar 3) wNil))))
  (wSeq (wIfS (wB (wBin dEq (wVar 4) (wC (.int 1)))) (wSet 5 (wCall 3 S noX (wCons (wVar 0) (wCons (wVar 5) (wCons (wVar 3) wNil))))) (wIfS (wB (wBin dEq (wVar 4) (wC (.int 2)))) (wSet 5 (wLc [7] (wSeqI (wVar 5)) (wName 7) wYes (wCall 3 S noX (wCons (wVar 0) (wCons (wVar 7) (wCons (wCB dLen (wCons (wVar 7) wNil)) wNil)))))) (wIfS (wB (wBin dEq (wVar 4) (wC (.int 3)))) (wSetIx 5 (wCall 3 L noX (wCons (wVar 0) (wCons (wVar 2) (wCons (wC (.bl true)) wNil)))) (wCall 2 T noX (wCons (wVar 0) (wCons (wVar 3) wNil)))) wNext)))
  (wRet (wVar 5)))) wNext)
  (wRet (wLc [6] (wRng1 (wCons (wVar 3) wNil)) (wName 6) wYes (wCall 3 L noX (wCons (wVar 0) (wCons (wVar 2) (wCons (wOrV (wBin dEq (wVar 4) (wC (.int 4))) (wBin (dI0 fun i j => .bl (decide (j < i))) (wCall 2 T noX (wCons (wVar 0) (wCons (wC (.int 4)) wNil))) (wC (.int 0)))) wNil))))))))
def FLawDevice (T S G L : Fd) : Fd := mkF (pin [0, 1, 2]) 8 (fun _ => wLawDevice T S G L)
end DL

set_option Elab.async false
set_option linter.all false
set_option maxRecDepth 100000
set_option maxHeartbeats 4000000
set_option exponentiation.threshold 3000
namespace DL
open PySem L2
theorem ifs_of {wc : Wt} {w u : Ws} {O : On} {ρ : Sl} (b : Bool) (hc : ∀ Q : Bool → Sl → Prop, Q b ρ → wc ρ Q) (h1 : b = true → w O ρ) (h0 : b = false → u O ρ) : wIfS wc w u O ρ := hc _ (by
  cases b with
  | true => exact h1 rfl
  | false => exact h0 rfl)
end DL

set_option Elab.async false
set_option linter.all false
set_option maxRecDepth 100000
set_option maxHeartbeats 4000000
set_option exponentiation.threshold 3000
namespace DL
open PySem L2
def wLawText : Ws := (wRet (wJoin (wC (.str "\n")) (wLc [1] (wSeqI (wVar 0)) (wName 1) wYes (wJoin (wC (.str " ")) (wBin dAdd (wLst (wCons (wC (.str "stage")) wNil)) (wLc [2] (wSeqI (wVar 1)) (wName 2) wYes (wCB dStr (wCons (wCB dInt (wCons (wVar 2) wNil)) wNil))))))))
def FLawText : Fd := mkF (pin [0]) 3 (fun _ => wLawText)
/-- the line of a stage, as a datum -/
def lineL : PD → PD
  | .lst xs => match intsOf xs with
    | some ls => .str (lineOf ls)
    | none => .non
  | _ => .non
end DL

set_option Elab.async false
set_option linter.all false
set_option maxRecDepth 100000
set_option maxHeartbeats 4000000
set_option exponentiation.threshold 3000
namespace DL
open PySem L2
/-! ### what the laws draw: all rows of a device, by delays, rules -/
def stepF (rows : List (List Int)) (ls : List Int) : List (List Int) := rows.flatMap fun row => (List.range ls.length).map fun (l : Nat) => row ++ [(l : Int)]
/-- all rows -/
def rowsF (sts : List (List Int)) : List (List Int) := sts.foldl stepF [[]]
def wLawRows : Ws := (wSeq (wSetF 1 (wLst (wCons (wTup wNil) wNil)))
  (wSeq (wFor (wSeqI (wVar 0)) (wName 2) (wSeq (wSet 3 (wLst wNil))
  (wSeq (wFor (wSeqI (wVar 1)) (wName 4) (wDrop (wExtend 3 (wCons (wLc [5] (wRng1 (wCons (wCB dLen (wCons (wVar 2) wNil)) wNil)) (wName 5) wYes (wBin dAdd (wVar 4) (wTup (wCons (wVar 5) wNil)))) wNil))))
  (wSetF 1 (wVar 3)))))
  (wRet (wVar 1))))
def FLawRows : Fd := mkF (pin [0]) 6 (fun _ => wLawRows)
def wLawRowDelay : Ws := (wRet (wCB dSumX (wCons (wLc [2, 3] (wZipX (wCons (wVar 0) (wCons (wVar 1) wNil))) (wgTup 2 (wgCons (wName 2) (wgCons (wName 3) wgNil))) wYes (wCB dInt (wCons (wBin dIx (wVar 2) (wVar 3)) wNil))) wNil)))
def FLawRowDelay : Fd := mkF (pin [0, 1]) 4 (fun _ => wLawRowDelay)
def delL : PD → PD
  | .tup [.lst xs, .int r] => xs.getD r.toNat .non
  | _ => .non
/-! rows by their delays -/
/-- the dict holds the rows by their delays -/
def ByD (sts : List (List Int)) (rows : List (List Int)) (kvs : List (Key × PD)) : Prop := kvs.length ≤ rows.length ∧ ∀ d : Int, getP kvs (.inl d) = if rows.filter (fun r => decide (delayOf sts r = d)) = [] then none else some (.lst ((rows.filter fun r => decide (delayOf sts r = d)).map bsP))
def wLawRowsBy : Ws := (wSeq (wSet 1 wDnew)
  (wSeq (wFor (wSeqI (wCall 1 FLawRows noX (wCons (wVar 0) wNil))) (wName 2) (wSeq (wSetF 3 (wCall 2 FLawRowDelay noX (wCons (wVar 0) (wCons (wVar 2) wNil))))
  (wDPut 1 (wVar 3) (wBin dAdd (wDGet2 1 (wVar 3) (wLst wNil)) (wLst (wCons (wVar 2) wNil))))))
  (wRet (wVar 1))))
def FLawRowsBy : Fd := mkF (pin [0]) 4 (fun _ => wLawRowsBy)
end DL

set_option Elab.async false
set_option linter.all false
set_option maxRecDepth 100000
set_option maxHeartbeats 4000000
set_option exponentiation.threshold 3000
namespace DL
open PySem L2
/-- the i-th row has the delay i -/
def RuleOk (sts : List (List Int)) (rule : List (List Int)) : Prop := ∀ (i : Nat) (r : List Int), rule[i]? = some r → rowB sts r = true ∧ delayOf sts r = (i : Int)
def cndRule : Wt := (wAnd (wB (wBin (dI0 fun i j => .bl (decide (i < j))) (wCB dLen (wCons (wVar 5) wNil)) (wVar 3))) (wB (wDInA false (wCB dLen (wCons (wVar 5) wNil)) 4)))
def bodRule (O : Fd) : Ws := (wDrop (wAppend 5 (wCons (wCall 2 O noX (wCons (wVar 0) (wCons (wDGetA 4 (wCB dLen (wCons (wVar 5) wNil))) wNil))) wNil)))
def wLawRule (T O B : Fd) : Ws := (wSeq (wPuts [4, 5] (wConsH (wCall 1 B noX (wCons (wVar 1) wNil)) (wConsH (wLst wNil) wNil)))
  (wSeq (wSetF 3 (wIf (wB (wBin (dI0 fun i j => .bl (decide (j < i))) (wCall 2 T noX (wCons (wVar 0) (wCons (wC (.int 3)) wNil))) (wC (.int 0)))) (wBin dAdd (wVar 2) (wC (.int 1))) (wBin dAdd (wC (.int 1)) (wCall 2 T noX (wCons (wVar 0) (wCons (wBin dAdd (wVar 2) (wC (.int 1))) wNil))))))
  (wSeq (wWhile (wAnd (wB (wBin (dI0 fun i j => .bl (decide (i < j))) (wCB dLen (wCons (wVar 5) wNil)) (wVar 3))) (wB (wDInA false (wCB dLen (wCons (wVar 5) wNil)) 4))) (wDrop (wAppend 5 (wCons (wCall 2 O noX (wCons (wVar 0) (wCons (wDGetA 4 (wCB dLen (wCons (wVar 5) wNil))) wNil))) wNil))))
  (wRet (wVar 5)))))
def FLawRule (T O B : Fd) : Fd := mkF (pin [0, 1, 2]) 6 (fun _ => wLawRule T O B)
end DL

set_option Elab.async false
set_option linter.all false
set_option maxRecDepth 100000
set_option maxHeartbeats 4000000
set_option exponentiation.threshold 3000
namespace DL
open PySem L2
def wLawRuled (Dv R T : Fd) : Ws := (wSeq (wFor (wRng1 (wCons (wC (.int 6)) wNil)) (wName 4) (wSeq (wSetF 5 (wCall 3 Dv noX (wCons (wVar 0) (wCons (wVar 1) (wCons (wVar 2) wNil)))))
  (wSeq (wSetF 6 (wCall 3 R noX (wCons (wVar 0) (wCons (wVar 5) (wCons (wVar 3) wNil)))))
  (wIfS (wOr (wB (wBin (dI0 fun i j => .bl (decide (j < i))) (wCB dLen (wCons (wVar 6) wNil)) (wC (.int 1)))) (wAnd (wB (wBin dNeX (wVar 6) (wLst wNil))) (wB (wBin dEq (wCall 2 T noX (wCons (wVar 0) (wCons (wC (.int 8)) wNil))) (wC (.int 0)))))) (wRet (wTup (wCons (wVar 5) (wCons (wVar 6) wNil)))) wNext))))
  (wRet (wTup (wCons (wLst (wCons (wLst (wCons (wC (.int 0)) (wCons (wC (.int 1)) wNil))) (wCons (wLst (wCons (wC (.int 0)) (wCons (wC (.int 2)) wNil))) wNil))) (wCons (wSl (wLst (wCons (wTup (wCons (wC (.int 0)) (wCons (wC (.int 0)) wNil))) (wCons (wTup (wCons (wC (.int 1)) (wCons (wC (.int 0)) wNil))) (wCons (wTup (wCons (wC (.int 0)) (wCons (wC (.int 1)) wNil))) (wCons (wTup (wCons (wC (.int 1)) (wCons (wC (.int 1)) wNil))) wNil))))) wNoPart (wPart (wBin dAdd (wVar 3) (wC (.int 1))))) wNil)))))
def FLawRuled (Dv R T : Fd) : Fd := mkF (pin [0, 1, 2, 3]) 7 (fun _ => wLawRuled Dv R T)
/-- a device and a rule of it -/
structure Ruled (sts rule : List (List Int)) (st size : Nat) : Prop where
  dev : Stgs sts
  few : sts.length ≤ st
  ok : RuleOk sts rule
  one : 1 ≤ rule.length
  many : rule.length ≤ size + 1
def sts0 : List (List Int) := [[0, 1], [0, 2]]
def rule0 : List (List Int) := [[0, 0], [1, 0], [0, 1], [1, 1]]
theorem RuleOk.take {sts rule : List (List Int)} (h : RuleOk sts rule) (n : Nat) : RuleOk sts (rule.take n) := fun i r hi => by
  rw [List.getElem?_take] at hi
  split at hi
  · exact h i r hi
  · cases hi
theorem cut_first {α : Type} (xs : List α) (s : Nat) : cutP xs none (some (s : Int)) = xs.take s := by
  unfold cutP
  rw [HT.sIx_none, HT.sIx_nat]
  simp only [List.drop_zero, Nat.sub_zero]
  by_cases h : s ≤ xs.length
  · rw [Nat.min_eq_left h]
  · rw [Nat.min_eq_right (by omega), List.take_of_length_le (Nat.le_refl _), List.take_of_length_le (by omega)]
end DL

set_option Elab.async false
set_option linter.all false
set_option maxRecDepth 100000
set_option maxHeartbeats 4000000
set_option exponentiation.threshold 3000
namespace DL
open PySem L2
/-! ### what the laws draw: services, counts -/
/-- what a count leaves of what waits -/
def nextL (l c : Int) : Int := if 0 > l + c - 1 then 0 else l + c - 1
def endL : List Int → Int → Int
  | [], l => l
  | c :: cs, l => endL cs (nextL l c)
/-- counts that can come -/
def FitQ (n size : Int) : List Int → Int → Prop
  | [], _ => True
  | c :: cs, l => (0 ≤ c ∧ c ≤ n ∧ l + c ≤ size + 1) ∧ FitQ n size cs (nextL l c)
def wLawService (O : Fd) : Ws := (wRet (wTup (wCons (wCall 2 O noX (wCons (wVar 0) (wCons (wLst (wCons (wC (.str "queue")) (wCons (wC (.str "queue")) (wCons (wC (.str "order")) (wCons (wC (.str "any")) wNil))))) wNil))) (wCons (wCB dInt (wCons (wCall 2 O noX (wCons (wVar 0) (wCons (wLst (wCons (wC (.int 1)) (wCons (wC (.int 2)) (wCons (wC (.int 2)) (wCons (wC (.int 3)) (wCons (wC (.int 4)) wNil)))))) wNil))) wNil)) wNil))))
def FLawService (O : Fd) : Fd := mkF (pin [0]) 1 (fun _ => wLawService O)
theorem lawService_ok {T O : Fd} (D : Drw T O) {m : Int} {s : SD} {Q : Rz → Sl → Prop} {Ξ : Xp} (hp : Pot m s) (hm : m ≤ 100000000) (h : ∀ w n s', isWord w → 1 ≤ n → n ≤ 4 → Pot (m + 2) s' → Q (.dat (sv w n)) [s']) : FLawService O [s] Q Ξ := by
  obtain ⟨o, rfl⟩ := hp.own
  have z4 : (4 : Nat) ≤ sizeLine := sz (by decide)
  have z5 : (5 : Nat) ≤ sizeLine := sz (by decide)
  have z2 : (2 : Nat) ≤ sizeLine := sz (by decide)
  unfold FLawService mkF
  refine ⟨pinned1, ?_⟩
  simp only [wLawService, z4, wSeq, wNext, wIfS, wSetF, wSet, into, wSetIx, wRet, wRetN, wDrop, wB, wBin, wUn, wCB, wCons, wNil, wVar, wC, wIf, wAnd, wOr, DL.wNot, wAndV, wOrV, wNotV, wTup, wLst, wSl, wNoPart, wPart, wChain, wUnp, wgTup, wgCons, wgNil, wName, wIsi, wListRg, wRg1, wRg2, wTupRg, wPuts, puts, Rz.sd, wConsH, wAppend, wExtend, ownL, dI, dI0, dIx, dInt, dAbs, dLen, dMax2, dMin2, dSum, dSumX, dAll, dAny, dList, dTuple, dAdd, dNeg, dIsN, dNotN, PD.isN, dSl, look, looks, ok, Rz.pd, SD.pd, OD.pd, Rz.cold, Rz.cool, warm, pdsOf, frz, frzAll, leave, argOf, onceB, newBor, isBor, ty_non, ty_bl, ty_int, ty_str, ty_lst, ty_scr, ty_tup, ty_dct, isa, String.reduceBEq, jR, jS, jU, uD, jW, wYes, wCall, backS_0, backS_1, backS_2, backS_3, backS_4, backS_o0, backS_o1, backS_o2, backS_o3, dEq_int, dEq_str, dNeX_int, dNeX_str, jC, jD, jE, jF, List.replicate, Nat.reduceAdd, Nat.reduceSub, jA, jB, jG, jH, jI, jJ, jK, jL, jM, jP, jQ, true_or, or_true, true_and, and_true, jV, jT, jY, jZ, uC, uA, uB, decide_true, decide_false, wFor, wRng1, wRng2, wLc, wSeqI, items, wEnumX, wCallO, wNever, noOwn, jN, jO, wipeS, jX, uE, atI0a, atI0b, atI0c, atI1b, atI1c, atI2c, wZipX, seqP, wRaise, wIsE, wVal, wMk, wPopAt, wPop, wAug, wTr, dTr, dLtX, dDivmod, wPick, pick, List.filterMap_cons, List.filterMap_nil]
  refine ⟨.inr ⟨_, rfl⟩, ?_⟩
  refine D.of (xs := [.str ("queue" : Str), .str ("queue" : Str), .str ("order" : Str), .str ("any" : Str)]) hp (by omega) (by decide) (by decide) fun x s2 hx hp => ?_
  obtain ⟨w, rfl, hw⟩ : ∃ w : Str, x = .str w ∧ isWord w := by
    simp only [List.mem_cons, List.not_mem_nil, or_false] at hx
    rcases hx with rfl | rfl | rfl | rfl
    · exact ⟨_, rfl, .inl rfl⟩
    · exact ⟨_, rfl, .inl rfl⟩
    · exact ⟨_, rfl, .inr (.inl rfl)⟩
    · exact ⟨_, rfl, .inr (.inr rfl)⟩
  obtain ⟨o2, rfl⟩ := hp.own
  simp only [backS_h1, z5, wSeq, wNext, wIfS, wSetF, wSet, into, wSetIx, wRet, wRetN, wDrop, wB, wBin, wUn, wCB, wCons, wNil, wVar, wC, wIf, wAnd, wOr, DL.wNot, wAndV, wOrV, wNotV, wTup, wLst, wSl, wNoPart, wPart, wChain, wUnp, wgTup, wgCons, wgNil, wName, wIsi, wListRg, wRg1, wRg2, wTupRg, wPuts, puts, Rz.sd, wConsH, wAppend, wExtend, ownL, dI, dI0, dIx, dInt, dAbs, dLen, dMax2, dMin2, dSum, dSumX, dAll, dAny, dList, dTuple, dAdd, dNeg, dIsN, dNotN, PD.isN, dSl, look, looks, ok, Rz.pd, SD.pd, OD.pd, Rz.cold, Rz.cool, warm, pdsOf, frz, frzAll, leave, argOf, onceB, newBor, isBor, ty_non, ty_bl, ty_int, ty_str, ty_lst, ty_scr, ty_tup, ty_dct, isa, String.reduceBEq, jR, jS, jU, uD, jW, wYes, wCall, backS_0, backS_1, backS_2, backS_3, backS_4, backS_o0, backS_o1, backS_o2, backS_o3, dEq_int, dEq_str, dNeX_int, dNeX_str, jC, jD, jE, jF, List.replicate, Nat.reduceAdd, Nat.reduceSub, jA, jB, jG, jH, jI, jJ, jK, jL, jM, jP, jQ, true_or, or_true, true_and, and_true, jV, jT, jY, jZ, uC, uA, uB, decide_true, decide_false, wFor, wRng1, wRng2, wLc, wSeqI, items, wEnumX, wCallO, wNever, noOwn, jN, jO, wipeS, jX, uE, atI0a, atI0b, atI0c, atI1b, atI1c, atI2c, wZipX, seqP, wRaise, wIsE, wVal, wMk, wPopAt, wPop, wAug, wTr, dTr, dLtX, dDivmod, wPick, pick, List.filterMap_cons, List.filterMap_nil]
  refine ⟨.inr ⟨_, rfl⟩, ?_⟩
  refine D.of (xs := [.int 1, .int 2, .int 2, .int 3, .int 4]) hp (by omega) (by decide) (by decide) fun x s3 hx hp => ?_
  obtain ⟨n, rfl, h0, h1⟩ : ∃ n : Int, x = .int n ∧ 1 ≤ n ∧ n ≤ 4 := by
    simp only [List.mem_cons, List.not_mem_nil, or_false] at hx
    rcases hx with rfl | rfl | rfl | rfl | rfl
    · exact ⟨1, rfl, by decide, by decide⟩
    · exact ⟨2, rfl, by decide, by decide⟩
    · exact ⟨2, rfl, by decide, by decide⟩
    · exact ⟨3, rfl, by decide, by decide⟩
    · exact ⟨4, rfl, by decide, by decide⟩
  obtain ⟨o3, rfl⟩ := hp.own
  simp only [backS_h1, z2, wSeq, wNext, wIfS, wSetF, wSet, into, wSetIx, wRet, wRetN, wDrop, wB, wBin, wUn, wCB, wCons, wNil, wVar, wC, wIf, wAnd, wOr, DL.wNot, wAndV, wOrV, wNotV, wTup, wLst, wSl, wNoPart, wPart, wChain, wUnp, wgTup, wgCons, wgNil, wName, wIsi, wListRg, wRg1, wRg2, wTupRg, wPuts, puts, Rz.sd, wConsH, wAppend, wExtend, ownL, dI, dI0, dIx, dInt, dAbs, dLen, dMax2, dMin2, dSum, dSumX, dAll, dAny, dList, dTuple, dAdd, dNeg, dIsN, dNotN, PD.isN, dSl, look, looks, ok, Rz.pd, SD.pd, OD.pd, Rz.cold, Rz.cool, warm, pdsOf, frz, frzAll, leave, argOf, onceB, newBor, isBor, ty_non, ty_bl, ty_int, ty_str, ty_lst, ty_scr, ty_tup, ty_dct, isa, String.reduceBEq, jR, jS, jU, uD, jW, wYes, wCall, backS_0, backS_1, backS_2, backS_3, backS_4, backS_o0, backS_o1, backS_o2, backS_o3, dEq_int, dEq_str, dNeX_int, dNeX_str, jC, jD, jE, jF, List.replicate, Nat.reduceAdd, Nat.reduceSub, jA, jB, jG, jH, jI, jJ, jK, jL, jM, jP, jQ, true_or, or_true, true_and, and_true, jV, jT, jY, jZ, uC, uA, uB, decide_true, decide_false, wFor, wRng1, wRng2, wLc, wSeqI, items, wEnumX, wCallO, wNever, noOwn, jN, jO, wipeS, jX, uE, atI0a, atI0b, atI0c, atI1b, atI1c, atI2c, wZipX, seqP, wRaise, wIsE, wVal, wMk, wPopAt, wPop, wAug, wTr, dTr, dLtX, dDivmod, wPick, pick, List.filterMap_cons, List.filterMap_nil]
  exact h w n _ hw h0 h1 (hp.mono (by omega))
def wLawCounts (T : Fd) : Ws := (wSeq (wPuts [5, 6, 7] (wConsH (wLst wNil) (wConsH (wC (.int 0)) (wConsH (wCall 2 T noX (wCons (wVar 0) (wCons (wC (.int 4)) wNil))) wNil))))
  (wSeq (wFor (wRng1 (wCons (wVar 3) wNil)) (wName 4) (wSeq (wSetF 8 (wCB dMin2 (wCons (wVar 1) (wCons (wBin dAdd (wBin (dI0 fun i j => .int (i - j)) (wVar 2) (wVar 6)) (wC (.int 1))) wNil))))
  (wSeq (wSetF 9 (wIf (wB (wBin dEq (wVar 7) (wC (.int 0)))) (wVar 8) (wCall 2 T noX (wCons (wVar 0) (wCons (wBin dAdd (wVar 8) (wC (.int 1))) wNil)))))
  (wSeq (wIfS (wAnd (wB (wBin dEq (wVar 7) (wC (.int 2)))) (wB (wBin (dI0 fun i j => .bl (decide (j < i))) (wCall 2 T noX (wCons (wVar 0) (wCons (wC (.int 3)) wNil))) (wC (.int 0))))) (wSetF 9 (wCB dMin2 (wCons (wVar 8) (wCons (wC (.int 1)) wNil)))) wNext)
  (wSeq (wIfS (wAnd (wB (wBin dEq (wVar 7) (wC (.int 3)))) (wB (wBin dEq (wCall 2 T noX (wCons (wVar 0) (wCons (wC (.int 3)) wNil))) (wC (.int 0))))) (wSetF 9 (wC (.int 0))) wNext)
  (wSeq (wDrop (wAppend 5 (wCons (wCB dInt (wCons (wVar 9) wNil)) wNil)))
  (wSetF 6 (wCB dMax2 (wCons (wC (.int 0)) (wCons (wBin (dI0 fun i j => .int (i - j)) (wBin dAdd (wVar 6) (wVar 9)) (wC (.int 1))) wNil))))))))))
  (wRet (wVar 5))))
def FLawCounts (T : Fd) : Fd := mkF (pin [0, 1, 2, 3]) 10 (fun _ => wLawCounts T)
end DL

set_option Elab.async false
set_option linter.all false
set_option maxRecDepth 100000
set_option maxHeartbeats 4000000
set_option exponentiation.threshold 3000
namespace DL
open PySem L2
/-! ### the words "order" and "any" -/
def tw (a : Bool) : Str := if a then "any" else "order"
abbrev twP (a : Bool) : PD := .str (tw a)
def withH (a : Bool) (h d : Int) : Int := if a then ((h.toNat ||| 2 ^ d.toNat : Nat) : Int) else d + 1
def freeH (a : Bool) (h d : Int) : Bool := if a then !h.toNat.testBit d.toNat else decide (h ≤ d)
def laterH (a : Bool) (h : Int) : Int := if a then h / 2 else (if 0 > h - 1 then 0 else h - 1)
theorem with_nn {a : Bool} {h d : Int} (hd : 0 ≤ d) : 0 ≤ withH a h d := by cases a <;> simp only [withH] <;> first | omega | exact Int.natCast_nonneg _
theorem later_nn {a : Bool} {h : Int} (hh : 0 ≤ h) : 0 ≤ laterH a h := by
  cases a
  · show 0 ≤ (if 0 > h - 1 then 0 else h - 1); split <;> omega
  · show 0 ≤ h / 2; omega
theorem sok_tw (a : Bool) : PyData.strOk (tw a) = true := by cases a; exact sok_order; exact sok_any
theorem twq (a : Bool) : decide (tw a = ("queue" : Str)) = false := by cases a <;> decide +kernel
theorem two (a : Bool) : decide (tw a = ("order" : Str)) = !a := by cases a <;> decide +kernel
def FitRow (a : Bool) (size : Int) : List Int → Int → Prop
  | [], _ => True
  | d :: ds, h => (0 ≤ d ∧ d ≤ size ∧ freeH a h d = true) ∧ FitRow a size ds (withH a h d)
def endRow (a : Bool) : List Int → Int → Int
  | [], h => h
  | d :: ds, h => endRow a ds (withH a h d)
def FitT (a : Bool) (n size : Int) : List (List Int) → Int → Prop
  | [], _ => True
  | r :: rs, h => ((r.length : Int) ≤ n ∧ FitRow a size r h) ∧ FitT a n size rs (laterH a (endRow a r h))
def endT (a : Bool) : List (List Int) → Int → Int
  | [], h => h
  | r :: rs, h => endT a rs (laterH a (endRow a r h))
theorem fitRow_all {a : Bool} {size : Int} : ∀ {r : List Int} {h : Int}, FitRow a size r h → ∀ d ∈ r, 0 ≤ d ∧ d ≤ size
  | d :: ds, h, ⟨f, g⟩, x, hx => by
    rcases List.mem_cons.mp hx with rfl | hx
    · exact ⟨f.1, f.2.1⟩
    · exact fitRow_all g x hx
/-- a row as it is told -/
abbrev rowP (r : List Int) : PD := .tup (r.map .int)
/-- the slots taken, as a dict -/
def kvT (tk : List Int) : List (Key × PD) := tk.map fun v => (Sum.inl v, PD.bl true)
/-- what is held behind a slot, by the slots taken -/
def RelT (a : Bool) (i : Int) (tk : List Int) (last h : Int) : Prop := 0 ≤ h ∧ -1 ≤ last ∧ (if a then ∀ d : Nat, h.toNat.testBit d = decide (i + (d : Int) ∈ tk) else h = if last + 1 - i < 0 then 0 else last + 1 - i)
theorem RelT.free {a : Bool} {i : Int} {tk : List Int} {last h d : Int} (R : RelT a i tk last h) (d0 : 0 ≤ d) (h1 : i + d ∉ tk) (h2 : a = true ∨ last < i + d) : freeH a h d = true := by
  obtain ⟨r0, r1, r⟩ := R
  cases a
  · rw [if_neg (by decide)] at r
    have : last < i + d := h2.resolve_left (by decide)
    show decide (h ≤ d) = true
    refine decide_eq_true ?_
    rw [r]; split <;> omega
  · rw [if_pos rfl] at r
    have := r d.toNat
    rw [Int.toNat_of_nonneg d0, decide_eq_false h1] at this
    show (!h.toNat.testBit d.toNat) = true
    rw [this]; rfl
theorem RelT.add {a : Bool} {i : Int} {tk : List Int} {last h d : Int} (R : RelT a i tk last h) (i0 : 0 ≤ i) (d0 : 0 ≤ d) (h2 : a = true ∨ last < i + d) : RelT a i (tk ++ [i + d]) (if i + d > last then i + d else last) (withH a h d) := by
  obtain ⟨r0, r1, r⟩ := R
  refine ⟨with_nn d0, by split <;> omega, ?_⟩
  cases a
  · have : last < i + d := h2.resolve_left (by decide)
    rw [if_neg (by decide), if_pos this, if_neg (by omega)]
    show d + 1 = _
    omega
  · rw [if_pos rfl] at r ⊢
    intro e
    show (((h.toNat ||| 2 ^ d.toNat : Nat) : Int)).toNat.testBit e = _
    rw [Int.toNat_natCast, Nat.testBit_or, r e, Nat.testBit_two_pow]
    by_cases he : d.toNat = e
    · have : i + (e : Int) ∈ tk ++ [i + d] := List.mem_append.mpr (.inr (List.mem_singleton.mpr (by omega)))
      rw [decide_eq_true this, decide_eq_true he, Bool.or_true]
    · rw [decide_eq_false he, Bool.or_false]
      have : (i + (e : Int) ∈ tk ++ [i + d]) = (i + (e : Int) ∈ tk) := by
        apply propext
        rw [List.mem_append, List.mem_singleton]
        constructor
        · rintro (q | q)
          · exact q
          · omega
        · exact .inl
      simp only [this]
theorem RelT.next {a : Bool} {i : Int} {tk : List Int} {last h : Int} (R : RelT a i tk last h) : RelT a (i + 1) tk last (laterH a h) := by
  obtain ⟨r0, r1, r⟩ := R
  refine ⟨later_nn r0, r1, ?_⟩
  cases a
  · rw [if_neg (by decide)] at r ⊢
    show (if 0 > h - 1 then 0 else h - 1) = _
    rw [r]
    split <;> split <;> split <;> omega
  · rw [if_pos rfl] at r ⊢
    intro e
    obtain ⟨k, rfl⟩ := Int.eq_ofNat_of_zero_le r0
    show ((k : Int) / 2).toNat.testBit e = _
    have e1 : ((k : Int) / 2).toNat = k / 2 := by omega
    have e2 : i + 1 + (e : Int) = i + ((e + 1 : Nat) : Int) := by omega
    rw [e1, ← Nat.testBit_succ, e2, ← r (e + 1), Int.toNat_natCast]
def wLawTold (T O : Fd) : Ws := (wSeq (wUnp (wVar 1) (wgTup 2 (wgCons (wName 5) (wgCons (wName 6) wgNil))))
  (wSeq (wPuts [7, 8, 9] (wConsH (wLst wNil) (wConsH wDnew (wConsH (wUn dNeg (wC (.int 1))) wNil))))
  (wSeq (wFor (wRng1 (wCons (wVar 3) wNil)) (wName 4) (wSeq (wSet 10 (wLst wNil))
  (wSeq (wFor (wRng1 (wCons (wCall 2 T noX (wCons (wVar 0) (wCons (wBin dAdd (wVar 6) (wC (.int 1))) wNil))) wNil)) (wName 11) (wSeq (wSetF 12 (wLc [13] (wRng1 (wCons (wBin dAdd (wVar 2) (wC (.int 1))) wNil)) (wName 13) (wB (wDIn true (wBin dAdd (wVar 4) (wVar 13)) 8)) (wVar 13)))
  (wSeq (wSetF 12 (wLc [13] (wSeqI (wVar 12)) (wName 13) (wOr (wB (wBin dEq (wVar 5) (wC (.str "any")))) (wB (wBin (dI0 fun i j => .bl (decide (j < i))) (wBin dAdd (wVar 4) (wVar 13)) (wVar 9)))) (wVar 13)))
  (wSeq (wIfS (wB (wBin dEq (wVar 12) (wLst wNil))) wBreak wNext)
  (wSeq (wSetF 13 (wCB dInt (wCons (wIf (wAnd (wB (wBin dEq (wVar 5) (wC (.str "order")))) (wB (wBin dEq (wCall 2 T noX (wCons (wVar 0) (wCons (wC (.int 2)) wNil))) (wC (.int 0))))) (wBin dIx (wVar 12) (wC (.int 0))) (wCall 2 O noX (wCons (wVar 0) (wCons (wVar 12) wNil)))) wNil)))
  (wSeq (wDrop (wAppend 10 (wCons (wVar 13) wNil)))
  (wSeq (wDPut 8 (wBin dAdd (wVar 4) (wVar 13)) (wC (.bl true)))
  (wSetF 9 (wCB dMax2 (wCons (wVar 9) (wCons (wBin dAdd (wVar 4) (wVar 13)) wNil)))))))))))
  (wDrop (wAppend 7 (wCons (wCB dTuple (wCons (wVar 10) wNil)) wNil))))))
  (wRet (wVar 7)))))
def FLawTold (T O : Fd) : Fd := mkF (pin [0, 1, 2, 3]) 14 (fun _ => wLawTold T O)
def wLapT (T O : Fd) : Ws := (wSeq (wSetF 12 (wLc [13] (wRng1 (wCons (wBin dAdd (wVar 2) (wC (.int 1))) wNil)) (wName 13) (wB (wDIn true (wBin dAdd (wVar 4) (wVar 13)) 8)) (wVar 13)))
  (wSeq (wSetF 12 (wLc [13] (wSeqI (wVar 12)) (wName 13) (wOr (wB (wBin dEq (wVar 5) (wC (.str "any")))) (wB (wBin (dI0 fun i j => .bl (decide (j < i))) (wBin dAdd (wVar 4) (wVar 13)) (wVar 9)))) (wVar 13)))
  (wSeq (wIfS (wB (wBin dEq (wVar 12) (wLst wNil))) wBreak wNext)
  (wSeq (wSetF 13 (wCB dInt (wCons (wIf (wAnd (wB (wBin dEq (wVar 5) (wC (.str "order")))) (wB (wBin dEq (wCall 2 T noX (wCons (wVar 0) (wCons (wC (.int 2)) wNil))) (wC (.int 0))))) (wBin dIx (wVar 12) (wC (.int 0))) (wCall 2 O noX (wCons (wVar 0) (wCons (wVar 12) wNil)))) wNil)))
  (wSeq (wDrop (wAppend 10 (wCons (wVar 13) wNil)))
  (wSeq (wDPut 8 (wBin dAdd (wVar 4) (wVar 13)) (wC (.bl true)))
  (wSetF 9 (wCB dMax2 (wCons (wVar 9) (wCons (wBin dAdd (wVar 4) (wVar 13)) wNil))))))))))
end DL

set_option Elab.async false
set_option linter.all false
set_option maxRecDepth 100000
set_option maxHeartbeats 4000000
set_option exponentiation.threshold 3000
namespace DL
open PySem L2
/-- the delays of counts -/
def rowsI : List Int → Int → List (List Int)
  | [], _ => []
  | c :: cs, l => ((List.range c.toNat).map fun (k : Nat) => l + (k : Int)) :: rowsI cs (nextL l c)
theorem rowsI_len : ∀ (cs : List Int) (l : Int), (rowsI cs l).length = cs.length
  | [], _ => rfl
  | c :: cs, l => by rw [rowsI, List.length_cons, List.length_cons, rowsI_len cs]
/-- a script that can stand, and its delays -/
inductive Scr (n size : Int) : Str → List PD → List (List Int) → Int → Prop
  | q (cs : List Int) : FitQ n size cs 0 → Scr n size "queue" (cs.map .int) (rowsI cs 0) (endL cs 0)
  | t (a : Bool) (rs : List (List Int)) : FitT a n size rs 0 → Scr n size (tw a) (rs.map rowP) rs (endT a rs 0)
theorem Scr.len {n size : Int} {w : Str} {vs : List PD} {rs : List (List Int)} {he : Int} (h : Scr n size w vs rs he) : rs.length = vs.length := by
  cases h with
  | q cs h => rw [rowsI_len, List.length_map]
  | t a rs h => rw [List.length_map]
theorem Scr.word {n size : Int} {w : Str} {vs : List PD} {rs : List (List Int)} {he : Int} (h : Scr n size w vs rs he) : isWord w := by
  cases h with
  | q cs h => exact .inl rfl
  | t a rs h => cases a; exact .inr (.inl rfl); exact .inr (.inr rfl)
theorem rowsI_ok {n size : Int} : ∀ (cs : List Int) (l : Int), FitQ n size cs l → 0 ≤ l → ∀ r ∈ rowsI cs l, (r.length : Int) ≤ n ∧ ∀ d ∈ r, 0 ≤ d ∧ d ≤ size
  | c :: cs, l, ⟨⟨f0, f1, f2⟩, f3⟩, h0, r, h => by
    rw [rowsI] at h
    rcases List.mem_cons.mp h with e | h
    · subst e
      refine ⟨by rw [List.length_map, List.length_range]; omega, fun d hd => ?_⟩
      obtain ⟨k, hk, rfl⟩ := List.mem_map.mp hd
      have := List.mem_range.mp hk
      omega
    · exact rowsI_ok cs _ f3 (by unfold nextL; split <;> omega) r h
theorem fitT_ok {a : Bool} {n size : Int} : ∀ (rs : List (List Int)) (h : Int), FitT a n size rs h → ∀ r ∈ rs, (r.length : Int) ≤ n ∧ ∀ d ∈ r, 0 ≤ d ∧ d ≤ size
  | r :: rs, h, ⟨⟨f0, f1⟩, f2⟩, x, hx => by
    rcases List.mem_cons.mp hx with rfl | hx
    · exact ⟨f0, fitRow_all f1⟩
    · exact fitT_ok rs _ f2 x hx
theorem Scr.rows {n size : Int} {w : Str} {vs : List PD} {rs : List (List Int)} {he : Int} (h : Scr n size w vs rs he) : ∀ r ∈ rs, (r.length : Int) ≤ n ∧ ∀ d ∈ r, 0 ≤ d ∧ d ≤ size := by
  cases h with
  | q cs h => exact rowsI_ok cs 0 h (by decide)
  | t a rs h => exact fitT_ok rs 0 h
theorem fitQ_wide {n n' size size' : Int} (hn : n ≤ n') (hz : size ≤ size') : ∀ {cs : List Int} {l : Int}, FitQ n size cs l → FitQ n' size' cs l
  | [], _, _ => trivial
  | c :: cs, l, ⟨⟨f0, f1, f2⟩, f3⟩ => ⟨⟨f0, by omega, by omega⟩, fitQ_wide hn hz f3⟩
theorem fitRow_wide {a : Bool} {size size' : Int} (hz : size ≤ size') : ∀ {r : List Int} {h : Int}, FitRow a size r h → FitRow a size' r h
  | [], _, _ => trivial
  | d :: r, h, ⟨⟨f0, f1, f2⟩, f3⟩ => ⟨⟨f0, by omega, f2⟩, fitRow_wide hz f3⟩
theorem fitT_wide {a : Bool} {n n' size size' : Int} (hn : n ≤ n') (hz : size ≤ size') : ∀ {rs : List (List Int)} {h : Int}, FitT a n size rs h → FitT a n' size' rs h
  | [], _, _ => trivial
  | r :: rs, h, ⟨⟨f0, f1⟩, f3⟩ => ⟨⟨by omega, fitRow_wide hz f1⟩, fitT_wide hn hz f3⟩
theorem Scr.wide {n n' size size' : Int} {w : Str} {vs : List PD} {rs : List (List Int)} {he : Int} (h : Scr n size w vs rs he) (hn : n ≤ n') (hz : size ≤ size') : Scr n' size' w vs rs he := by
  cases h with
  | q cs h => exact .q cs (fitQ_wide hn hz h)
  | t a rs h => exact .t a rs (fitT_wide hn hz h)
def wLawScript (T O : Fd) : Ws := (wSeq (wSetF 4 (wCall 2 T noX (wCons (wVar 0) (wCons (wBin dAdd (wVar 3) (wC (.int 1))) wNil))))
  (wSeq (wIfS (wB (wBin dEq (wBin dIx (wVar 1) (wC (.int 0))) (wC (.str "queue")))) (wRet (wCall 4 (FLawCounts T) noX (wCons (wVar 0) (wCons (wBin dIx (wVar 1) (wC (.int 1))) (wCons (wVar 2) (wCons (wVar 4) wNil)))))) wNext)
  (wRet (wCall 4 (FLawTold T O) noX (wCons (wVar 0) (wCons (wVar 1) (wCons (wVar 2) (wCons (wVar 4) wNil))))))))
def FLawScript (T O : Fd) : Fd := mkF (pin [0, 1, 2, 3]) 5 (fun _ => wLawScript T O)
end DL

set_option Elab.async false
set_option linter.all false
set_option maxRecDepth 100000
set_option maxHeartbeats 4000000
set_option exponentiation.threshold 3000
namespace DL
open PySem L2
abbrev p2 (q : Int × Int) : PD := .tup [.int q.1, .int q.2]
def pkR : List (List Int) → Int → List (Int × Int)
  | [], _ => []
  | r :: rs, i => r.map (fun d => (i, d)) ++ pkR rs (i + 1)
/-! ### the law's own delays -/
@[elab_as_elim] theorem list_snoc {α : Type} {p : List α → Prop} (xs : List α) (nil : p []) (snoc : ∀ xs x, p xs → p (xs ++ [x])) : p xs := by
  have : ∀ ys : List α, p ys.reverse := fun ys => by
    induction ys with
    | nil => exact nil
    | cons y ys ih => rw [List.reverse_cons]; exact snoc _ _ ih
  have := this xs.reverse
  rwa [List.reverse_reverse] at this
/-- how many wait, by the last packet alone -/
def ahd (P : List (Int × Int)) (i : Int) : Int := match P.getLast? with
  | some p => if p.1 + p.2 + 1 - i > 0 then p.1 + p.2 + 1 - i else 0
  | none => 0
def wLawIsInt : Ws := (wRet (wAndV (wIsi "int" (wVar 0)) (wAndV (wNotV (wIsi "bool" (wVar 0))) (wChain (dI0 fun i j => .bl (decide (i ≤ j))) (dI0 fun i j => .bl (decide (i ≤ j))) (wVar 1) (wVar 0) (wVar 2)))))
def FLawIsInt : Fd := mkF (pin [0, 1, 2]) 3 (fun _ => wLawIsInt)
def wLawSlotDelays : Ws := (wSeq (wIfS (wB (wBin dEq (wBin dIx (wVar 0) (wC (.int 0))) (wC (.str "queue")))) (wSeq (wIfS (wNot (wB (wCall 3 FLawIsInt noX (wCons (wVar 3) (wCons (wC (.int 0)) (wCons (wBin dIx (wVar 0) (wC (.int 1))) wNil)))))) (wRet (wC .non)) wNext)
  (wSeq (wSetF 4 (wCB dMaxL (wCons (wBin dAdd (wLst (wCons (wC (.int 0)) wNil)) (wLc [6, 7] (wSeqI (wSl (wVar 1) (wPart (wUn dNeg (wC (.int 1)))) wNoPart)) (wgTup 2 (wgCons (wName 6) (wgCons (wName 7) wgNil))) wYes (wBin (dI0 fun i j => .int (i - j)) (wBin dAdd (wBin dAdd (wVar 6) (wVar 7)) (wC (.int 1))) (wVar 2)))) wNil)))
  (wRet (wLc [5] (wRng1 (wCons (wVar 3) wNil)) (wName 5) wYes (wCB dInt (wCons (wBin dAdd (wVar 4) (wVar 5)) wNil)))))) wNext)
  (wSeq (wIfS (wOr (wNot (wB (wIsi "tuple" (wVar 3)))) (wB (wBin (dI0 fun i j => .bl (decide (j < i))) (wCB dLen (wCons (wVar 3) wNil)) (wBin dIx (wVar 0) (wC (.int 1)))))) (wRet (wC .non)) wNext)
  (wRet (wCB dList (wCons (wVar 3) wNil)))))
def FLawSlotDelays : Fd := mkF (pin [0, 1, 2, 3]) 8 (fun _ => wLawSlotDelays)
def wLawPackets : Ws := (wSeq (wSet 2 (wLst wNil))
  (wSeq (wFor (wEnumX (wCons (wVar 1) wNil)) (wgTup 2 (wgCons (wName 3) (wgCons (wName 4) wgNil))) (wDrop (wExtend 2 (wCons (wLc [5] (wSeqI (wCall 4 FLawSlotDelays noX (wCons (wVar 0) (wCons (wVar 2) (wCons (wVar 3) (wCons (wVar 4) wNil)))))) (wName 5) wYes (wTup (wCons (wCB dInt (wCons (wVar 3) wNil)) (wCons (wCB dInt (wCons (wVar 5) wNil)) wNil)))) wNil))))
  (wRet (wVar 2))))
def FLawPackets : Fd := mkF (pin [0, 1]) 6 (fun _ => wLawPackets)
end DL

set_option Elab.async false
set_option linter.all false
set_option maxRecDepth 100000
set_option maxHeartbeats 4000000
set_option exponentiation.threshold 3000
namespace DL
open PySem L2
def wS_is_free : Ws := (wSeq (wIfS (wNot (wB (wCall 3 FIsWithin noX (wCons (wVar 3) (wCons (wC (.int 0)) (wCons (wVar 1) wNil)))))) (wRet (wC (.bl false))) wNext)
  (wSeq (wIfS (wB (wBin dEq (wVar 0) (wC (.str "any")))) (wRet (wBin dEq (wBin (dI0 fun i j => .int (Builtin.bitAnd i j)) (wBin (dI CNn fun i j => .int (i / 2 ^ j.toNat)) (wVar 2) (wVar 3)) (wC (.int 1))) (wC (.int 0)))) wNext)
  (wRet (wIf (wB (wBin dEq (wVar 0) (wC (.str "order")))) (wBin (dI0 fun i j => .bl (decide (j ≤ i))) (wVar 3) (wVar 2)) (wBin dEq (wVar 3) (wVar 2))))))
def FS_is_free : Fd := mkF (pin [0, 1, 2, 3]) 4 (fun _ => wS_is_free)
def wS_held_with : Ws := (wRet (wIf (wB (wBin dEq (wVar 0) (wC (.str "any")))) (wBin (dI0 fun i j => .int (Builtin.bitOr i j)) (wVar 1) (wBin (dI CShl fun i j => .int (i * 2 ^ j.toNat)) (wC (.int 1)) (wVar 2))) (wBin dAdd (wVar 2) (wC (.int 1)))))
def FS_held_with : Fd := mkF (pin [0, 1, 2]) 3 (fun _ => wS_held_with)
def wS_held_later : Ws := (wRet (wIf (wB (wBin dEq (wVar 0) (wC (.str "any")))) (wBin (dI CNn fun i j => .int (i / 2 ^ j.toNat)) (wVar 1) (wC (.int 1))) (wCB dMax2 (wCons (wBin (dI0 fun i j => .int (i - j)) (wVar 1) (wC (.int 1))) (wCons (wC (.int 0)) wNil)))))
def FS_held_later : Fd := mkF (pin [0, 1]) 2 (fun _ => wS_held_later)
def wS_held_behind : Ws := (wSeq (wFor (wSeqI (wVar 2)) (wName 3) (wSetF 1 (wCall 3 FS_held_with noX (wCons (wVar 0) (wCons (wVar 1) (wCons (wVar 3) wNil))))))
  (wRet (wCall 2 FS_held_later noX (wCons (wVar 0) (wCons (wVar 1) wNil)))))
def FS_held_behind : Fd := mkF (pin [0, 2]) 4 (fun _ => wS_held_behind)
def wS_told_delays : Ws := (wSeq (wUnp (wVar 0) (wgTup 2 (wgCons (wName 3) (wgCons (wName 4) wgNil))))
  (wSeq (wIfS (wB (wBin dEq (wVar 3) (wC (.str "queue")))) (wRet (wIf (wB (wCall 3 FIsWithin noX (wCons (wVar 2) (wCons (wC (.int 0)) (wCons (wVar 4) wNil))))) (wTupRg (wRg2 (wVar 1) (wBin dAdd (wVar 1) (wVar 2)))) (wC .non))) wNext)
  (wRet (wIf (wAnd (wB (wIsi "tuple" (wVar 2))) (wB (wBin (dI0 fun i j => .bl (decide (i ≤ j))) (wCB dLen (wCons (wVar 2) wNil)) (wVar 4)))) (wVar 2) (wC .non)))))
def FS_told_delays : Fd := mkF (pin [0, 1, 2]) 5 (fun _ => wS_told_delays)
def wS_slot_delays : Ws := (wSeq (wSetF 4 (wBin dIx (wVar 0) (wC (.int 0))))
  (wSeq (wSetF 5 (wCall 3 FS_told_delays noX (wCons (wVar 0) (wCons (wVar 2) (wCons (wVar 3) wNil)))))
  (wSeq (wIfS (wB (wBin dIsN (wVar 5) (wC .non))) (wRet (wC .non)) wNext)
  (wSeq (wFor (wSeqI (wVar 5)) (wName 6) (wSeq (wIfS (wNot (wB (wCall 4 FS_is_free noX (wCons (wVar 4) (wCons (wVar 1) (wCons (wVar 2) (wCons (wVar 6) wNil))))))) (wRet (wC .non)) wNext)
  (wSetF 2 (wCall 3 FS_held_with noX (wCons (wVar 4) (wCons (wVar 2) (wCons (wVar 6) wNil)))))))
  (wRet (wVar 5))))))
def FS_slot_delays : Fd := mkF (pin [0, 1, 3]) 7 (fun _ => wS_slot_delays)
def wS_delays_standing : Ws := (wSeq (wSet 3 (wLst wNil))
  (wSeq (wSetF 4 (wC (.int 0)))
  (wSeq (wFor (wSeqI (wVar 2)) (wName 5) (wSeq (wSetF 6 (wCall 4 FS_slot_delays noX (wCons (wVar 0) (wCons (wVar 1) (wCons (wVar 4) (wCons (wVar 5) wNil))))))
  (wSeq (wIfS (wB (wBin dIsN (wVar 6) (wC .non))) wBreak wNext)
  (wSeq (wDrop (wAppend 3 (wCons (wVar 6) wNil)))
  (wSetF 4 (wCall 3 FS_held_behind noX (wCons (wBin dIx (wVar 0) (wC (.int 0))) (wCons (wVar 4) (wCons (wVar 6) wNil)))))))))
  (wRet (wTup (wCons (wVar 3) (wCons (wVar 4) wNil)))))))
def FS_delays_standing : Fd := mkF (pin [0, 1, 2]) 7 (fun _ => wS_delays_standing)
abbrev quS : PD := .str "queue"
def rowsQ : List Int → Int → List PD
  | [], _ => []
  | c :: cs, l => .tup (rgP l c.toNat) :: rowsQ cs (nextL l c)
/-! ### bits -/
end DL

set_option Elab.async false
set_option linter.all false
set_option maxRecDepth 100000
set_option maxHeartbeats 4000000
set_option exponentiation.threshold 3000
namespace DL
open PySem L2
/-! ### a script is read, its packets are told -/
def wS_check_size (R : Ws) : Ws := (wIfS (wNot (wB (wCall 3 FIsWithin noX (wCons (wVar 0) (wCons (wC (.int 0)) (wCons (wC (.int 400)) wNil)))))) R wNext)
def FS_check_size (R : Xp → Ws) : Fd := mkF (pin [0]) 1 (fun Ξ => wS_check_size (R Ξ))
def wS_read_script (CS CZ : Fd) (ΞX : Xp) (R1 R2 : Ws) : Ws := (wSeq (wDrop (wCall 1 CS ΞX (wCons (wVar 0) wNil)))
  (wSeq (wDrop (wCall 1 CZ ΞX (wCons (wVar 1) wNil)))
  (wSeq (wIfS (wOr (wNot (wB (wIsi "tuple" (wVar 2)))) (wB (wBin (dI0 fun i j => .bl (decide (j < i))) (wCB dLen (wCons (wVar 2) wNil)) (wC (.int 1000))))) R1 wNext)
  (wSeq (wUnp (wCall 3 FS_delays_standing noX (wCons (wVar 0) (wCons (wVar 1) (wCons (wVar 2) wNil)))) (wgTup 2 (wgCons (wName 3) (wgCons (wName 4) wgNil))))
  (wSeq (wIfS (wB (wBin (dI0 fun i j => .bl (decide (i < j))) (wCB dLen (wCons (wVar 3) wNil)) (wCB dLen (wCons (wVar 2) wNil)))) R2 wNext)
  (wRet (wTup (wCons (wVar 3) (wCons (wVar 4) wNil)))))))))
def FS_read_script (CS CZ : Fd) (ΞX : Xp) (R1 R2 : Xp → Ws) : Fd := mkF (pin [0, 1, 2]) 5 (fun Ξ => wS_read_script CS CZ ΞX (R1 Ξ) (R2 Ξ))
theorem checkSize_ok {RZ : Xp → Ws} {size : Int} {Q : Rz → Sl → Prop} {Ξ : Xp} (h0 : 0 ≤ size) (h1 : size ≤ 400) (h : Q (.dat .non) [.dat (.int size)]) : FS_check_size RZ [.dat (.int size)] Q Ξ := by
  unfold FS_check_size mkF
  refine ⟨pinned1, ?_⟩
  simp only [wS_check_size, wSeq, wNext, wIfS, wSetF, wSet, into, wSetIx, wRet, wRetN, wDrop, wB, wBin, wUn, wCB, wCons, wNil, wVar, wC, wIf, wAnd, wOr, DL.wNot, wAndV, wOrV, wNotV, wTup, wLst, wSl, wNoPart, wPart, wChain, wUnp, wgTup, wgCons, wgNil, wName, wIsi, wListRg, wRg1, wRg2, wTupRg, wPuts, puts, Rz.sd, wConsH, wAppend, wExtend, ownL, dI, dI0, dIx, dInt, dAbs, dLen, dMax2, dMin2, dSum, dSumX, dAll, dAny, dList, dTuple, dAdd, dNeg, dIsN, dNotN, PD.isN, dSl, look, looks, ok, Rz.pd, SD.pd, OD.pd, Rz.cold, Rz.cool, warm, pdsOf, frz, frzAll, leave, argOf, onceB, newBor, isBor, ty_non, ty_bl, ty_int, ty_str, ty_lst, ty_scr, ty_tup, ty_dct, isa, String.reduceBEq, jR, jS, jU, uD, jW, wYes, wCall, backS_0, backS_1, backS_2, backS_3, backS_4, backS_o0, backS_o1, backS_o2, backS_o3, dEq_int, dEq_str, dNeX_int, dNeX_str, jC, jD, jE, jF, List.replicate, Nat.reduceAdd, Nat.reduceSub, jA, jB, jG, jH, jI, jJ, jK, jL, jM, jP, jQ, true_or, or_true, true_and, and_true, jV, jT, jY, jZ, uC, uA, uB, decide_true, decide_false, wFor, wRng1, wRng2, wLc, wSeqI, items, wEnumX, wCallO, wNever, noOwn, jN, jO, wipeS, jX, uE, atI0a, atI0b, atI0c, atI1b, atI1c, atI2c, wZipX, seqP, wRaise, wIsE, wVal, wMk, wPopAt, wPop, wAug, wTr, dTr, dLtX, dDivmod, wPick, pick, List.filterMap_cons, List.filterMap_nil]
  refine isWithin_ok ⟨_, rfl⟩ ?_
  have ew : within (.int size) 0 400 = true := by simp only [within, decide_eq_true h0, decide_eq_true h1, Bool.and_self]
  rw [ew]
  simp only [wSeq, wNext, wIfS, wSetF, wSet, into, wSetIx, wRet, wRetN, wDrop, wB, wBin, wUn, wCB, wCons, wNil, wVar, wC, wIf, wAnd, wOr, DL.wNot, wAndV, wOrV, wNotV, wTup, wLst, wSl, wNoPart, wPart, wChain, wUnp, wgTup, wgCons, wgNil, wName, wIsi, wListRg, wRg1, wRg2, wTupRg, wPuts, puts, Rz.sd, wConsH, wAppend, wExtend, ownL, dI, dI0, dIx, dInt, dAbs, dLen, dMax2, dMin2, dSum, dSumX, dAll, dAny, dList, dTuple, dAdd, dNeg, dIsN, dNotN, PD.isN, dSl, look, looks, ok, Rz.pd, SD.pd, OD.pd, Rz.cold, Rz.cool, warm, pdsOf, frz, frzAll, leave, argOf, onceB, newBor, isBor, ty_non, ty_bl, ty_int, ty_str, ty_lst, ty_scr, ty_tup, ty_dct, isa, String.reduceBEq, jR, jS, jU, uD, jW, wYes, wCall, backS_0, backS_1, backS_2, backS_3, backS_4, backS_o0, backS_o1, backS_o2, backS_o3, dEq_int, dEq_str, dNeX_int, dNeX_str, jC, jD, jE, jF, List.replicate, Nat.reduceAdd, Nat.reduceSub, jA, jB, jG, jH, jI, jJ, jK, jL, jM, jP, jQ, true_or, or_true, true_and, and_true, jV, jT, jY, jZ, uC, uA, uB, decide_true, decide_false, wFor, wRng1, wRng2, wLc, wSeqI, items, wEnumX, wCallO, wNever, noOwn, jN, jO, wipeS, jX, uE, atI0a, atI0b, atI0c, atI1b, atI1c, atI2c, wZipX, seqP, wRaise, wIsE, wVal, wMk, wPopAt, wPop, wAug, wTr, dTr, dLtX, dDivmod, wPick, pick, List.filterMap_cons, List.filterMap_nil]
  exact h
def wS_packets_with : Ws := (wRet (wCB dTuple (wCons (wLc2 [2, 3, 1] [1] (wEnumX (wCons (wVar 0) wNil)) (wgTup 2 (wgCons (wName 2) (wgCons (wName 3) wgNil))) wYes (wSeqI (wVar 3)) (wName 1) wYes (wTup (wCons (wVar 2) (wCons (wVar 1) wNil)))) wNil)))
def FS_packets_with : Fd := mkF (pin [0]) 4 (fun _ => wS_packets_with)
def wS_packets_of (RS : Fd) (ΞX : Xp) : Ws := (wSeq (wUnp (wCall 3 RS ΞX (wCons (wVar 0) (wCons (wVar 1) (wCons (wVar 2) wNil)))) (wgTup 2 (wgCons (wName 3) (wgCons (wName 4) wgNil))))
  (wRet (wCall 1 FS_packets_with noX (wCons (wVar 3) wNil))))
def FS_packets_of (RS : Fd) (ΞX : Xp) : Fd := mkF (pin [0, 1, 2]) 5 (fun _ => wS_packets_of RS ΞX)
end DL

set_option Elab.async false
set_option linter.all false
set_option maxRecDepth 100000
set_option maxHeartbeats 4000000
set_option exponentiation.threshold 3000
namespace DL
open PySem L2
/-- a slot's packets, as they are told -/
def pkP (d : PD) : List PD := match d with
  | .tup [i, .tup ds] => ds.map fun x => .tup [i, x]
  | _ => []
end DL

set_option Elab.async false
set_option linter.all false
set_option maxRecDepth 100000
set_option maxHeartbeats 4000000
set_option exponentiation.threshold 3000
namespace DL
open PySem L2
/-! ### when a packet leads -/
/-- what stages and lanes give one after another, from a slot on -/
def tmZ : List (List Int × Int) → Int → List Int
  | [], t => [t]
  | (ls, l) :: z, t => t :: tmZ z (t + ls.getD l.toNat 0)
def sumZ (z : List (List Int × Int)) : Int := (z.map fun p => p.1.getD p.2.toNat 0).sum
def wS_times_of (C : Addr) : Ws := (wSeq (wSet 3 (wLst (wCons (wVar 2) wNil)))
  (wSeq (wFor (wZipX (wCons (wFld C "stages" (wVar 0)) (wCons (wVar 1) wNil))) (wgTup 2 (wgCons (wName 4) (wgCons (wName 5) wgNil))) (wDrop (wAppend 3 (wCons (wBin dAdd (wBin dIx (wVar 3) (wUn dNeg (wC (.int 1)))) (wBin dIx (wVar 4) (wVar 5))) wNil))))
  (wRet (wCB dTuple (wCons (wVar 3) wNil)))))
def FS_times_of (C : Addr) : Fd := mkF (pin [0, 1, 2]) 6 (fun _ => wS_times_of C)
end DL

set_option Elab.async false
set_option linter.all false
set_option maxRecDepth 100000
set_option maxHeartbeats 4000000
set_option exponentiation.threshold 3000
namespace DL
open PySem L2
/-! ### the ways of packets -/
/-- the way of the j-th packet -/
def wayD (sts rule : List (List Int)) (first : Int) (j : Nat) (p : Int × Int) : PD := .tup [.int (first + (j : Int)), bsP (rule.getD p.2.toNat []), bsP (tmZ (sts.zip (rule.getD p.2.toNat [])) p.1)]
def waysD (sts rule : List (List Int)) (first : Int) (ps : List (Int × Int)) : List PD := ps.mapIdx fun j p => wayD sts rule first j p
def wS_ways_of (C : Addr) : Ws := (wSeq (wSet 4 (wLst wNil))
  (wSeq (wFor (wEnumX (wCons (wVar 2) wNil)) (wgTup 2 (wgCons (wName 5) (wgCons (wgTup 2 (wgCons (wName 7) (wgCons (wName 8) wgNil))) wgNil))) (wSeq (wSetF 6 (wBin dIx (wVar 1) (wVar 8)))
  (wDrop (wAppend 4 (wCons (wTup (wCons (wBin dAdd (wVar 3) (wVar 5)) (wCons (wVar 6) (wCons (wCall 3 (FS_times_of C) noX (wCons (wVar 0) (wCons (wVar 6) (wCons (wVar 7) wNil)))) wNil)))) wNil)))))
  (wRet (wCB dTuple (wCons (wVar 4) wNil)))))
def FS_ways_of (C : Addr) : Fd := mkF (pin [0, 1, 2, 3]) 9 (fun _ => wS_ways_of C)
/-! ### the rule is checked, the script is read, its packets' ways are told -/
def wS_check_rule (C : Addr) (R : Ws) : Ws := (wIfS (wNot (wB (wCall 2 (FIsRule C) noX (wCons (wVar 0) (wCons (wVar 1) wNil))))) R wNext)
def FS_check_rule (C : Addr) (R : Xp → Ws) : Fd := mkF (pin [0, 1]) 2 (fun Ξ => wS_check_rule C (R Ξ))
def wS_script_ways (C : Addr) (CR PO : Fd) (X1 X2 : Xp) : Ws := (wSeq (wDrop (wCall 2 CR X1 (wCons (wVar 0) (wCons (wVar 1) wNil))))
  (wRet (wCall 4 (FS_ways_of C) noX (wCons (wVar 0) (wCons (wVar 1) (wCons (wCall 3 PO X2 (wCons (wVar 2) (wCons (wBin (dI0 fun i j => .int (i - j)) (wCB dLen (wCons (wVar 1) wNil)) (wC (.int 1))) (wCons (wVar 3) wNil)))) (wCons (wC (.int 0)) wNil)))))))
def FS_script_ways (C : Addr) (CR PO : Fd) (X1 X2 : Xp) : Fd := mkF (pin [0, 1, 2, 3]) 4 (fun _ => wS_script_ways C CR PO X1 X2)
end DL

set_option Elab.async false
set_option linter.all false
set_option maxRecDepth 100000
set_option maxHeartbeats 4000000
set_option exponentiation.threshold 3000
namespace DL
open PySem L2
/-! ### rows of ints of one length can be sorted -/
end DL

set_option Elab.async false
set_option linter.all false
set_option maxRecDepth 100000
set_option maxHeartbeats 4000000
set_option exponentiation.threshold 3000
namespace DL
open PySem L2
/-! ### what every packet leads: (slot, stage, lane, packet), in order -/
structure Way where
  num : Int
  row : List Int
  tm : List Int
def Way.pd (w : Way) : PD := .tup [.int w.num, bsP w.row, bsP w.tm]
def ledRow (w : Way) : List (List Int) := w.row.mapIdx fun s l => [w.tm.getD s 0, (s : Int), l, w.num]
def ledL (ws : List Way) : List (List Int) := ws.flatMap ledRow
def wS_all_led : Ws := (wSeq (wSet 1 (wLst wNil))
  (wSeq (wFor (wSeqI (wVar 0)) (wgTup 3 (wgCons (wName 2) (wgCons (wName 3) (wgCons (wName 4) wgNil)))) (wFor (wEnumX (wCons (wVar 3) wNil)) (wgTup 2 (wgCons (wName 5) (wgCons (wName 6) wgNil))) (wDrop (wAppend 1 (wCons (wTup (wCons (wBin dIx (wVar 4) (wVar 5)) (wCons (wVar 5) (wCons (wVar 6) (wCons (wVar 2) wNil))))) wNil)))))
  (wRet (wCB dSorted (wCons (wVar 1) wNil)))))
def FS_all_led : Fd := mkF (pin [0]) 7 (fun _ => wS_all_led)
end DL

set_option Elab.async false
set_option linter.all false
set_option maxRecDepth 100000
set_option maxHeartbeats 4000000
set_option exponentiation.threshold 3000
namespace DL
open PySem L2
def wTak5 (A B C D E : Int) : Ws := (wSeq (wIfS (wB (wBin (dI0 fun i j => .bl (decide (j < i))) (wBin dIx (wVar 0) (wC (.int 0))) (wC (.int 0)))) (wSeq (wSetF 4 (wBin (dI CPos fun i j => .int (i % j)) (wCB dInt (wCons (wBin dIx (wVar 0) (wC (.int 0))) wNil)) (wVar 1)))
  (wSeq (wSetIx 0 (wBin (dI CDivW fun i j => .int (i / j)) (wBin dIx (wVar 0) (wC (.int 0))) (wVar 1)) (wC (.int 0)))
  (wRet (wVar 4)))) wNext)
  (wSeq (wSetIx 0 (wBin dAdd (wBin dIx (wVar 0) (wC (.int 2))) (wC (.int 1))) (wC (.int 2)))
  (wSeq (wSetF 2 (wBin dIx (wLst (wCons (wC (.int 2147483647)) (wCons (wC (.int 2147483629)) (wCons (wC (.int 2147483587)) (wCons (wC (.int 2147483579)) (wCons (wC (.int 2147483563)) wNil)))))) (wBin (dI CPos fun i j => .int (i % j)) (wCB dInt (wCons (wBin dIx (wVar 0) (wC (.int 2))) wNil)) (wC (.int 5)))))
  (wSeq (wSetF 3 (wBin (dI CPos fun i j => .int (i % j)) (wCB dInt (wCons (wBin (dI CPowX fun i j => .int (i ^ j.toNat)) (wCB dInt (wCons (wBin dAdd (wBin dAdd (wBin dIx (wVar 0) (wC (.int 1))) (wBin (dI CMulX fun i j => .int (i * j)) (wBin (dI CMulX fun i j => .int (i * j)) (wC (.int A)) (wBin dIx (wVar 0) (wC (.int 2)))) (wBin dIx (wVar 0) (wC (.int 2))))) (wC (.int B))) wNil)) (wC (.int 3))) wNil)) (wVar 2)))
  (wSeq (wSetF 3 (wBin (dI CPos fun i j => .int (i % j)) (wCB dInt (wCons (wBin (dI CMulX fun i j => .int (i * j)) (wVar 3) (wBin dAdd (wBin (dI CPos fun i j => .int (i % j)) (wCB dInt (wCons (wVar 3) wNil)) (wC (.int C))) (wBin (dI CMulX fun i j => .int (i * j)) (wC (.int D)) (wBin dIx (wVar 0) (wC (.int 2)))))) wNil)) (wC (.int 2305843009213693907))))
  (wRet (wBin (dI CPos fun i j => .int (i % j)) (wCB dInt (wCons (wBin (dI CDivW fun i j => .int (i / j)) (wVar 3) (wC (.int E))) wNil)) (wVar 1))))))))
def FTak5 (A B C D E : Int) : Fd := mkF (pin [0, 1]) 5 (fun _ => wTak5 A B C D E)
theorem tak5_ok {A B C D E m n : Int} {s : SD} {Q : Rz → Sl → Prop} {Ξ : Xp} (hAB : AB4 A B C D) (hE : 0 < E) (hE2 : E ≤ 1000000) (hp : Pot m s) (hm : m ≤ 1000000000000) (hn : 0 < n) (hn' : Sm n)
    (h : ∀ d s', 0 ≤ d → d < n → Pot (m + 1) s' → Q (.dat (.int d)) [s', .dat (.int n)]) : FTak5 A B C D E [s, .dat (.int n)] Q Ξ := by
  obtain ⟨a, b, c, rfl, ha, hb, hb', hc, hc'⟩ := hp
  obtain ⟨hA, hA', hB, hB', hC, hC', hD, hD'⟩ := hAB
  unfold FTak5 mkF
  refine ⟨pinned2 (fun o z => by cases z), ?_⟩
  simp only [wTak5, wSeq, wIfS, wSetF, wSet, wSetIx, wRet, wB, wBin, wUn, wCB, wCons, wNil, wVar, wC, dI, dI0, dIx, dInt, look, looks, ok, Rz.pd, SD.pd, OD.pd, Rz.cold, Rz.cool, warm, pdsOf, frz, frzAll, ownL, List.length_cons, List.length_nil, List.cons_append, List.nil_append, List.replicate, Nat.reduceAdd, Nat.reduceSub, List.getElem?_cons_zero, List.getElem?_cons_succ, Option.bind_some, atI0c, atI1c, atI2c, ix0, ix2, List.set_cons_zero, List.set_cons_succ, true_or, or_true, true_and, wLst, leave, fin, wNext, dAdd]
  have hpos : CPos a n := hn
  have hdiv : CDivW a n := divX hn hn'
  by_cases h0 : 0 < a
  · simp only [decide_eq_true h0]
    refine ⟨hpos, hdiv, ?_⟩
    have := emod_rng (x := a) hn
    exact h (a % n) _ this.1 this.2 ⟨a / n, b, c, rfl, Int.ediv_nonneg ha (by omega), hb, hb', hc, by omega⟩
  · simp only [decide_eq_false h0]
    obtain ⟨p, ep, p0, p1⟩ := primes ((c + 1) % 5) (emod_rng (by decide)).1 (emod_rng (by decide)).2
    rw [ep]
    have hc1 : Sm (c + 1) := sm_big (by omega)
    have hm2 : Sm (A * (c + 1)) := by
      have q1 : A * (c + 1) ≤ 1000000 * 1000000000001 := Int.mul_le_mul hA' (by omega) (by omega) (by decide)
      have q0 : 0 ≤ A * (c + 1) := Int.mul_nonneg hA (by omega)
      exact sm_big (by omega)
    have q1 : A * (c + 1) * (c + 1) ≤ 1000000 * 1000000000001 * 1000000000001 := Int.mul_le_mul (Int.mul_le_mul hA' (by omega) (by omega) (by decide)) (by omega) (by omega) (by decide)
    have q0 : 0 ≤ A * (c + 1) * (c + 1) := Int.mul_nonneg (Int.mul_nonneg hA (by omega)) (by omega)
    refine ⟨by rw [sizeLine_eq]; decide, .inr ⟨_, rfl⟩, by unfold CPos; decide, mulX (sm_big (by omega)) hc1, mulX hm2 hc1, powX (sm_big (by omega)) (by decide) (by decide), ?_⟩
    show CPos _ p ∧ _
    obtain ⟨r0, r1⟩ := emod_rng (x := (b + A * (c + 1) * (c + 1) + B) ^ Int.toNat 3) p0
    generalize (b + A * (c + 1) * (c + 1) + B) ^ Int.toNat 3 % p = u at r0 r1 ⊢
    obtain ⟨v0, v1⟩ := emod_rng (x := u) (n := C) hC
    have q3 : D * (c + 1) ≤ 1000000 * 1000000000001 := Int.mul_le_mul hD' (by omega) (by omega) (by decide)
    have q4 : 0 ≤ D * (c + 1) := Int.mul_nonneg hD (by omega)
    refine ⟨p0, hC, mulX (sm_big (by omega)) hc1, mulX (sm_big (by omega)) (sm_big (by omega)), by unfold CPos; decide, divX hE (sm_big (by omega)), hpos, ?_⟩
    have := emod_rng (x := u * (u % C + D * (c + 1)) % 2305843009213693907 / E) hn
    exact h _ _ this.1 this.2 ⟨a, b, c + 1, rfl, ha, hb, hb', by omega, by omega⟩
def wOf5 (A B C D E : Int) : Ws := (wRet (wBin dIx (wVar 1) (wCall 2 (FTak5 A B C D E) noX (wCons (wVar 0) (wCons (wCB dLen (wCons (wVar 1) wNil)) wNil)))))
def FOf5 (A B C D E : Int) : Fd := mkF (pin [0, 1]) 2 (fun _ => wOf5 A B C D E)
theorem of5_ok {A B C D E m : Int} {s : SD} {xs : List PD} {Q : Rz → Sl → Prop} {Ξ : Xp} (hAB : AB4 A B C D) (hE : 0 < E) (hE2 : E ≤ 1000000) (hp : Pot m s) (hm : m ≤ 1000000000000) (h0 : 0 < xs.length) (h1 : xs.length ≤ 100000)
    (h : ∀ x s', x ∈ xs → Pot (m + 1) s' → Q (.dat x) [s', .dat (.lst xs)]) : FOf5 A B C D E [s, .dat (.lst xs)] Q Ξ := by
  obtain ⟨o, ho⟩ := hp.own
  unfold FOf5 mkF
  refine ⟨pinned2 (fun o z => by cases z), ?_⟩
  subst ho
  simp only [wOf5, wSeq, wNext, wIfS, wSetF, wSet, into, wSetIx, wRet, wRetN, wDrop, wB, wBin, wUn, wCB, wCons, wNil, wVar, wC, wIf, wAnd, wOr, wNot, wAndV, wOrV, wNotV, wTup, wLst, wSl, wNoPart, wPart, wChain, wUnp, wgTup, wgCons, wgNil, wName, wIsi, wListRg, wRg1, wRg2, wTupRg, wPuts, puts, Rz.sd, wConsH, wAppend, wExtend, ownL, dI, dI0, dIx, dInt, dAbs, dLen, dMax2, dMin2, dSum, dAll, dAny, dList, dTuple, dAdd, dNeg, dIsN, dNotN, PD.isN, dSl, look, looks, ok, Rz.pd, SD.pd, OD.pd, Rz.cold, Rz.cool, warm, pdsOf, frz, frzAll, leave, argOf, onceB, newBor, isBor, ty_non, ty_bl, ty_int, ty_str, ty_lst, ty_scr, ty_tup, ty_dct, isa, String.reduceBEq, beq_self_eq_true, Bool.false_and, Bool.and_false, Bool.not_true, Bool.or_self, wYes, wCall, backS_0, backS_1, backS_2, backS_3, backS_4, backS_o0, backS_o1, backS_o2, backS_o3, dEq_int, dEq_str, dNeX_int, dNeX_str, List.length_cons, List.length_nil, List.cons_append, List.nil_append, List.replicate, Nat.reduceAdd, Nat.reduceSub, List.getElem?_cons_zero, List.getElem?_cons_succ, Option.bind_some, List.set_cons_zero, List.set_cons_succ, List.map_cons, List.map_nil, List.any_cons, List.any_nil, List.getD_cons_zero, List.getD_cons_succ, true_or, or_true, true_and, and_true, Bool.and_true, Bool.true_and, Bool.or_false, Bool.false_or, Bool.not_false, Bool.not_true, Bool.or_true, Bool.true_or, decide_true, decide_false, wFor, wRng1, wRng2, wLc, wSeqI, items, wEnumX, wCallO, wNever, noOwn, List.all_cons, List.all_nil, wipeS, Bool.and_self, decide_eq_true_eq, atI0a, atI0b, atI0c, atI1b, atI1c, atI2c]
  refine tak5_ok hAB hE hE2 hp hm (by omega) (sm_big (by omega)) fun d s' hd hd' hp' => ?_
  obtain ⟨x, hat, hx⟩ := atI_of hd hd'
  obtain ⟨o', ho'⟩ := hp'.own
  subst ho'
  rw [backS_o1 rfl]
  simp only [wSeq, wNext, wIfS, wSetF, wSet, into, wSetIx, wRet, wRetN, wDrop, wB, wBin, wUn, wCB, wCons, wNil, wVar, wC, wIf, wAnd, wOr, wNot, wAndV, wOrV, wNotV, wTup, wLst, wSl, wNoPart, wPart, wChain, wUnp, wgTup, wgCons, wgNil, wName, wIsi, wListRg, wRg1, wRg2, wTupRg, wPuts, puts, Rz.sd, wConsH, wAppend, wExtend, ownL, dI, dI0, dIx, dInt, dAbs, dLen, dMax2, dMin2, dSum, dAll, dAny, dList, dTuple, dAdd, dNeg, dIsN, dNotN, PD.isN, dSl, look, looks, ok, Rz.pd, SD.pd, OD.pd, Rz.cold, Rz.cool, warm, pdsOf, frz, frzAll, leave, argOf, onceB, newBor, isBor, ty_non, ty_bl, ty_int, ty_str, ty_lst, ty_scr, ty_tup, ty_dct, isa, String.reduceBEq, beq_self_eq_true, Bool.false_and, Bool.and_false, Bool.not_true, Bool.or_self, wYes, wCall, backS_0, backS_1, backS_2, backS_3, backS_4, backS_o0, backS_o1, backS_o2, backS_o3, dEq_int, dEq_str, dNeX_int, dNeX_str, List.length_cons, List.length_nil, List.cons_append, List.nil_append, List.replicate, Nat.reduceAdd, Nat.reduceSub, List.getElem?_cons_zero, List.getElem?_cons_succ, Option.bind_some, List.set_cons_zero, List.set_cons_succ, List.map_cons, List.map_nil, List.any_cons, List.any_nil, List.getD_cons_zero, List.getD_cons_succ, true_or, or_true, true_and, and_true, Bool.and_true, Bool.true_and, Bool.or_false, Bool.false_or, Bool.not_false, Bool.not_true, Bool.or_true, Bool.true_or, decide_true, decide_false, wFor, wRng1, wRng2, wLc, wSeqI, items, wEnumX, wCallO, wNever, noOwn, List.all_cons, List.all_nil, wipeS, Bool.and_self, decide_eq_true_eq, atI0a, atI0b, atI0c, atI1b, atI1c, atI2c]
  rw [hat]
  exact h x _ (List.mem_of_getElem? hx) hp'
theorem drw5 {A B C D E : Int} (h : AB4 A B C D) (hE : 0 < E) (hE2 : E ≤ 1000000) : Drw (FTak5 A B C D E) (FOf5 A B C D E) := ⟨fun hp hm hn hn' k => tak5_ok h hE hE2 hp hm hn hn' k, fun hp hm h0 h1 k => of5_ok h hE hE2 hp hm h0 h1 k⟩
end DL

set_option Elab.async false
set_option linter.all false
set_option maxRecDepth 100000
set_option maxHeartbeats 4000000
set_option exponentiation.threshold 3000
namespace DL
open PySem L2
/-! ### clashes among what is led -/
/-! ### sorted rows -/
def srt (L : List (List Int)) : List (List Int) := L.mergeSort (fun a b => decide (a ≤ b))
/-! ### each two of one place -/
def plc (r : List Int) : List Int := r.dropLast
def nm (r : List Int) : Int := r.getLastD 0
def prF (x y : List Int) : List Int := plc x ++ [min (nm x) (nm y), max (nm x) (nm y)]
def prs : List (List Int) → List (List Int)
  | [] => []
  | x :: l => (l.filter fun y => decide (plc y = plc x)).map (prF x) ++ prs l
/-- the packets that lead at the place, as far as it goes on -/
def pkAt (pl pl' pk : List Int) : List Int := if pl' = pl then pk else []
/-- what is led, one after another: at each place, each packet with those before it -/
def scanF : List (List Int) → List Int → List Int → List (List Int)
  | [], _, _ => []
  | r :: rs, pl, pk => ((pkAt pl (plc r) pk).map fun one => plc r ++ [one, nm r]) ++ scanF rs (plc r) (pkAt pl (plc r) pk ++ [nm r])
/-- all clashes of what is led, in order -/
def clF (E : List (List Int)) : List (List Int) := srt (prs E)
/-! ### later slots -/
def shR (o : Int) : List Int → List Int
  | [] => []
  | a :: t => (a + o) :: t
def wS_clashes_among : Ws := (wSeq (wSet 1 (wLst wNil))
  (wSeq (wSet 2 (wLst wNil))
  (wSeq (wSetF 3 (wTup wNil))
  (wSeq (wFor (wSeqI (wVar 0)) (wName 4) (wSeq (wIfS (wB (wBin dNeX (wSl (wVar 4) wNoPart (wPart (wUn dNeg (wC (.int 1))))) (wVar 3))) (wSeq (wSetF 3 (wSl (wVar 4) wNoPart (wPart (wUn dNeg (wC (.int 1))))))
  (wSet 2 (wLst wNil))) wNext)
  (wSeq (wSetF 5 (wBin dIx (wVar 4) (wUn dNeg (wC (.int 1)))))
  (wSeq (wDrop (wExtend 1 (wCons (wLcO 2 [6] (wName 6) wYes (wBin dAdd (wVar 3) (wTup (wCons (wVar 6) (wCons (wVar 5) wNil))))) wNil)))
  (wDrop (wAppend 2 (wCons (wVar 5) wNil)))))))
  (wRet (wCB dTuple (wCons (wCB dSorted (wCons (wVar 1) wNil)) wNil)))))))
def FS_clashes_among : Fd := mkF (pin [0]) 7 (fun _ => wS_clashes_among)

end DL

set_option Elab.async false
set_option linter.all false
set_option maxRecDepth 100000
set_option maxHeartbeats 4000000
set_option exponentiation.threshold 3000
namespace DL
open PySem L2
/-! ### the law's own clashes -/
/-- how much lies ahead, stage by stage -/
def ahZ : List (List Int) → List Int → Int → List Int
  | ls :: dev, k :: row, t => t :: ahZ dev row (t + ls.getD k.toNat 0)
  | _, _, _ => []
def FitsZ (dev : List (List Int)) (row : List Int) : Prop := ∀ q ∈ dev.zip row, 0 ≤ q.2 ∧ q.2 < q.1.length
/-- a device of a law's own, handed on or kept -/
def DvZ (dev : List (List Int)) (D0 : SD) : Prop := D0 = .own (.lst (dev.map lsI)) ∨ D0 = .dat (.lst (dev.map lsI))
def wLawAheads : Ws := (wSeq (wPuts [2, 3] (wConsH (wLst wNil) (wConsH (wC (.int 0)) wNil)))
  (wSeq (wFor (wZipX (wCons (wVar 0) (wCons (wVar 1) wNil))) (wgTup 2 (wgCons (wName 4) (wgCons (wName 5) wgNil))) (wSeq (wDrop (wAppend 2 (wCons (wCB dInt (wCons (wVar 3) wNil)) wNil)))
  (wSetF 3 (wBin dAdd (wVar 3) (wBin dIx (wVar 4) (wVar 5))))))
  (wRet (wVar 2))))
def FLawAheads : Fd := mkF (pin [0, 1]) 6 (fun _ => wLawAheads)
end DL

set_option Elab.async false
set_option linter.all false
set_option maxRecDepth 100000
set_option maxHeartbeats 4000000
set_option exponentiation.threshold 3000
namespace DL
open PySem L2
/-- a rule, as a list or as a tuple -/
def RlZ (rule : List (List Int)) (p : PD) : Prop := p = .lst (rule.map bsP) ∨ p = .tup (rule.map bsP)
/-! ### over a slot -/
/-- the slots of a packet -/
def rtZ (sts rule : List (List Int)) (p : Int × Int) : List Int := ahZ sts (rule.getD p.2.toNat []) p.1
def wLawRoutes : Ws := (wSeq (wSetF 3 (wLc [4] (wSeqI (wVar 1)) (wName 4) wYes (wCall 2 FLawAheads noX (wCons (wVar 0) (wCons (wVar 4) wNil)))))
  (wRet (wLc [6, 7] (wSeqI (wVar 2)) (wgTup 2 (wgCons (wName 6) (wgCons (wName 7) wgNil))) wYes (wLc [5] (wSeqI (wBin dIx (wVar 3) (wVar 7))) (wName 5) wYes (wCB dInt (wCons (wBin dAdd (wVar 6) (wVar 5)) wNil))))))
def FLawRoutes : Fd := mkF (pin [0, 1, 2]) 8 (fun _ => wLawRoutes)
def packsOk (rule : List (List Int)) (ps : List (Int × Int)) : Prop := ∀ p ∈ ps, 0 ≤ p.2 ∧ p.2 < (rule.length : Int)
end DL

set_option Elab.async false
set_option linter.all false
set_option maxRecDepth 100000
set_option maxHeartbeats 4000000
set_option exponentiation.threshold 3000
namespace DL
open PySem L2
/-! ### the law's clashes, by a dict -/
def kI (p : List Int) : List Key := p.map Sum.inl
/-- those before, at a place -/
def hereOf (E : List (List Int)) (p : List Int) : List Int := (E.filter fun y => decide (plc y = p)).map nm
/-- what the dict tells of what was led -/
def DictE (kvs : List (List Key × PD)) (E : List (List Int)) : Prop := kvs.length ≤ E.length ∧ ∀ p, (getT kvs (kI p)).getD (.lst []) = lsI (hereOf E p)
def wayZ (sts rule : List (List Int)) (j : Nat) (p : Int × Int) : Way := ⟨(j : Int), rule.getD p.2.toNat [], tmZ (sts.zip (rule.getD p.2.toNat [])) p.1⟩
def waysZ (sts rule : List (List Int)) (ps : List (Int × Int)) : List Way := ps.mapIdx fun j p => wayZ sts rule j p
end DL

set_option Elab.async false
set_option linter.all false
set_option maxRecDepth 100000
set_option maxHeartbeats 4000000
set_option exponentiation.threshold 3000
namespace DL
open PySem L2
def wLawClIn : Ws := (wSeq (wSetF 10 (wDGetT 3 (wCons (wVar 9) (wCons (wVar 8) (wCons (wBin dIx (wVar 7) (wVar 8)) wNil))) (wLst wNil)))
  (wSeq (wDrop (wExtend 4 (wCons (wLc [11] (wSeqI (wVar 10)) (wName 11) wYes (wTup (wCons (wCB dInt (wCons (wVar 9) wNil)) (wCons (wCB dInt (wCons (wVar 8) wNil)) (wCons (wCB dInt (wCons (wBin dIx (wVar 7) (wVar 8)) wNil)) (wCons (wCB dInt (wCons (wVar 11) wNil)) (wCons (wCB dInt (wCons (wVar 5) wNil)) wNil))))))) wNil)))
  (wDPutT 3 (wCons (wVar 9) (wCons (wVar 8) (wCons (wBin dIx (wVar 7) (wVar 8)) wNil))) (wBin dAdd (wVar 10) (wLst (wCons (wVar 5) wNil))))))
def wLawClashes : Ws := (wSeq (wPuts [3, 4] (wConsH wDnewT (wConsH (wLst wNil) wNil)))
  (wSeq (wFor (wEnumX (wCons (wCall 3 FLawRoutes noX (wCons (wVar 0) (wCons (wVar 1) (wCons (wVar 2) wNil)))) wNil)) (wgTup 2 (wgCons (wName 5) (wgCons (wName 6) wgNil))) (wSeq (wSetF 7 (wBin dIx (wVar 1) (wBin dIx (wBin dIx (wVar 2) (wVar 5)) (wC (.int 1)))))
  (wFor (wEnumX (wCons (wVar 6) wNil)) (wgTup 2 (wgCons (wName 8) (wgCons (wName 9) wgNil))) wLawClIn)))
  (wRet (wCB dSorted (wCons (wVar 4) wNil)))))
def FLawClashes : Fd := mkF (pin [0, 1, 2]) 12 (fun _ => wLawClashes)
/-- what stands in the inner loop -/
def clR (a b c : SD) (kvs : List (List Key × PD)) (F : List (List Int)) (j : Int) (sl row : List Int) (s8 s9 s10 : SD) : Sl := [a, b, c, .own (.dT kvs), .own (.lst (F.map bsP)), .dat (.int j), .dat (lsI sl), .dat (bsP row), s8, s9, s10, .emp]
end DL

set_option Elab.async false
set_option linter.all false
set_option maxRecDepth 100000
set_option maxHeartbeats 4000000
set_option exponentiation.threshold 3000
namespace DL
open PySem L2
/-! ### repr of many clashes -/
/-! ### the program's clashes -/
def wS_clashes_of (SW : Fd) : Ws := (wRet (wCall 1 FS_clashes_among noX (wCons (wCall 1 FS_all_led noX (wCons (wCall 4 SW noX (wCons (wVar 0) (wCons (wVar 1) (wCons (wVar 2) (wCons (wVar 3) wNil))))) wNil)) wNil)))
def FS_clashes_of (SW : Fd) : Fd := mkF (pin [0, 1, 2, 3]) 4 (fun _ => wS_clashes_of SW)
/-! ### idle slots ahead -/
def idV (w : Str) : PD := if w = "queue" then .int 0 else .tup []
theorem pkR_idle : ∀ (o : Nat) (rs : List (List Int)) (i : Int), pkR (List.replicate o [] ++ rs) i = pkR rs (i + (o : Int))
  | 0, rs, i => by simp
  | o + 1, rs, i => by
    rw [List.replicate_succ, List.cons_append, pkR, List.map_nil, List.nil_append, pkR_idle o]
    congr 1
    omega
/-! ### all clashes can be shown -/
end DL

set_option Elab.async false
set_option linter.all false
set_option maxRecDepth 100000
set_option maxHeartbeats 4000000
set_option exponentiation.threshold 3000
namespace DL
open PySem L2
/-! ### a law whose pots are kept in a list -/
def wLawC (n L : Int) (Fp Fr : Fd) : Ws := (wPots (wSeqI (wCall 2 FCells noX (wCons (wVar 0) (wCons (wC (.int n)) wNil)))) 2 (wCall 2 Fp noX (wCons (wVar 0) (wCons (wVar 2) wNil))) 1 3 (wCB dAll (wCons (wLc [4] (wRng1 (wCons (wC (.int L)) wNil)) (wName 4) wYes (wCall 1 Fr noX (wCons (wVar 3) wNil))) wNil)))
def RightLess (M : Int) (F : Fd) : Prop := ∀ (m : Int) (s : SD) (Q : Rz → Sl → Prop), 0 ≤ m → m ≤ 90000 → Pot m s → (∀ s', Pot (m + M) s' → Q (.dat (.bl true)) [s']) → F [s] Q noX
end DL

set_option Elab.async false
set_option linter.all false
set_option maxRecDepth 100000
set_option maxHeartbeats 4000000
set_option exponentiation.threshold 3000
namespace DL
open PySem L2
/-! ### what is in the lanes ahead of a slot -/
/-- the lanes of a device, and how much is in one at most -/
structure Shp (sts : List (List Int)) (χ : Tree) (n : Nat) : Prop where
  len : χ.length = sts.length
  row : ∀ (i : Nat) (row : List (List PD)), χ[i]? = some row → row.length = (sts.getD i []).length
  few : ∀ (i : Nat) (row : List (List PD)) (xs : List PD), χ[i]? = some row → xs ∈ row → xs.length ≤ n
def tree0 (sts : List (List Int)) : Tree := sts.map fun ls => List.replicate ls.length []
def addT (χ : Tree) (s l : Nat) (d : PD) : Tree := χ.set s ((χ.getD s []).set l (((χ.getD s []).getD l []) ++ [d]))
theorem Shp.add {sts : List (List Int)} {χ : Tree} {n : Nat} (h : Shp sts χ n) (s l : Nat) (d : PD) : Shp sts (addT χ s l d) (n + 1) := by
  have hle : ∀ (i : Nat) (row : List (List PD)) (xs : List PD), χ[i]? = some row → xs ∈ row → xs.length ≤ n + 1 := fun i row xs a b => Nat.le_succ_of_le (h.few i row xs a b)
  refine ⟨by unfold addT; rw [List.length_set]; exact h.len, fun i row hr => ?_, fun i row xs hr hx => ?_⟩
  · unfold addT at hr
    rw [List.getElem?_set] at hr
    split at hr
    · rename_i e
      subst e
      split at hr
      · rename_i hlt
        have hr := Option.some.inj hr
        subst hr
        rw [List.length_set, List.getD_eq_getElem?_getD, List.getElem?_eq_getElem hlt]
        exact h.row s _ (List.getElem?_eq_getElem hlt)
      · cases hr
    · exact h.row i row hr
  · unfold addT at hr
    rw [List.getElem?_set] at hr
    split at hr
    · rename_i e
      subst e
      split at hr
      · rename_i hlt
        have hr := Option.some.inj hr
        subst hr
        have eg : χ.getD s [] = χ[s] := by rw [List.getD_eq_getElem?_getD, List.getElem?_eq_getElem hlt]; rfl
        rw [eg] at hx
        rcases List.mem_or_eq_of_mem_set hx with hx | hx
        · exact hle s _ xs (List.getElem?_eq_getElem hlt) hx
        · subst hx
          rw [List.length_append, List.length_singleton]
          have : (χ[s].getD l []).length ≤ n := by
            rw [List.getD_eq_getElem?_getD]
            cases hg : χ[s][l]? with
            | none => exact Nat.zero_le _
            | some ys => exact h.few s _ ys (List.getElem?_eq_getElem hlt) (List.mem_of_getElem? hg)
          omega
      · cases hr
    · exact hle i row xs hr hx
theorem Shp.wide {sts : List (List Int)} {χ : Tree} {n m : Nat} (h : Shp sts χ n) (hm : n ≤ m) : Shp sts χ m := ⟨h.len, h.row, fun i row xs a b => Nat.le_trans (h.few i row xs a b) hm⟩
def lnStep (slot : Int) (w : Way) (χ : Tree) (s : Nat) : Tree :=
  if w.tm.getD s 0 < slot ∧ slot ≤ w.tm.getD (s + 1) 0 then addT χ s (w.row.getD s 0).toNat (.tup [.int w.num, .int (w.tm.getD (s + 1) 0 - slot)]) else χ
def lnRow (slot : Int) (χ : Tree) (w : Way) : Tree := (List.range w.row.length).foldl (lnStep slot w) χ
def lnAll (slot : Int) (sts : List (List Int)) (ws : List Way) : Tree := ws.foldl (lnRow slot) (tree0 sts)
theorem Shp.step {sts : List (List Int)} {χ : Tree} {n : Nat} (h : Shp sts χ n) (slot : Int) (w : Way) (s : Nat) : Shp sts (lnStep slot w χ s) (n + 1) := by
  unfold lnStep
  split
  · exact h.add _ _ _
  · exact h.wide (Nat.le_succ _)
def laneP (χ : Tree) : PD := .tup (χ.map fun row => .tup (row.map PD.tup))
end DL

set_option Elab.async false
set_option linter.all false
set_option maxRecDepth 100000
set_option maxHeartbeats 4000000
set_option exponentiation.threshold 3000
namespace DL
open PySem L2
/-! ### what is led into each lane: a list for each (stage, lane) -/
abbrev Grp := (Int × Int) × List (Int × Int)
def addG : List Grp → Int × Int → Int × Int → List Grp
  | [], k, d => [(k, [d])]
  | (k', xs) :: r, k, d => if k' = k then (k', xs ++ [d]) :: r else (k', xs) :: addG r k d
def kG (k : Int × Int) : List Key := [.inl k.1, .inl k.2]
def dG (d : Int × Int) : PD := .tup [.int d.1, .int d.2]
def toLed (g : List Grp) : Led := g.map fun e => (kG e.1, e.2.map dG)
def ledG (ps : List ((Int × Int) × (Int × Int))) : List Grp := ps.foldl (fun g p => addG g p.1 p.2) []
/-- what stands in each list -/
structure LedOk (ps : List ((Int × Int) × (Int × Int))) (g : List Grp) : Prop where
  nd : (g.map (·.1)).Nodup
  it : ∀ e ∈ g, e.2 = (ps.filter fun p => decide (p.1 = e.1)).map (·.2)
  all : ∀ p ∈ ps, p.1 ∈ g.map (·.1)
  len : g.length ≤ ps.length
end DL

set_option Elab.async false
set_option linter.all false
set_option maxRecDepth 100000
set_option maxHeartbeats 4000000
set_option exponentiation.threshold 3000
namespace DL
open PySem L2
abbrev Stp4 := (Int × Int) × (Int × Int)
/-- what the row x leads -/
def stp (sts : List (List Int)) (x : Nat) (row : List Int) : List Stp4 := row.mapIdx fun s l => (((s : Int), l), ((x : Int), (tmZ (sts.zip row) 0).getD s 0))
def steps (sts rule : List (List Int)) : List Stp4 := (rule.mapIdx fun x row => stp sts x row).flatten
def wS_rows_led (C : Addr) : Ws := (wLed 2 (wForT (wEnumX (wCons (wVar 1) wNil)) (wgTup 2 (wgCons (wName 3) (wgCons (wName 4) wgNil))) (wSeqT (wLiftT (wSetF 5 (wCall 3 (FS_times_of C) noX (wCons (wVar 0) (wCons (wVar 4) (wCons (wC (.int 0)) wNil))))))
  (wForT (wEnumX (wCons (wVar 4) wNil)) (wgTup 2 (wgCons (wName 6) (wgCons (wName 7) wgNil))) (wSdT (wCons (wVar 6) (wCons (wVar 7) wNil)) (wCons (wTup (wCons (wVar 3) (wCons (wBin dIx (wVar 5) (wVar 6)) wNil))) wNil)))))
  (wRet (wVar 2)))
def FS_rows_led (C : Addr) : Fd := mkF (pin [0, 1]) 8 (fun _ => wS_rows_led C)
end DL

set_option Elab.async false
set_option linter.all false
set_option maxRecDepth 100000
set_option maxHeartbeats 4000000
set_option exponentiation.threshold 3000
namespace DL
open PySem L2
/-! ### the pairs of one lane -/
def prB (w : Str) (n : Int) (a b : Int × Int) : Bool := decide (b.2 ≤ a.2) && Poss w n a.1 b.1 (a.2 - b.2)
def prG1 (w : Str) (n : Int) (a : Int × Int) (ys : List (Int × Int)) : List (List Int) := ys.flatMap fun b => if prB w n a b = true then [[a.1, b.1, a.2 - b.2]] else []
def prG (w : Str) (n : Int) (xs ys : List (Int × Int)) : List (List Int) := xs.flatMap fun a => prG1 w n a ys
def wS_pairs_led : Ws := (wSeq (wSet 2 (wLst wNil))
  (wSeq (wFor (wSeqI (wVar 1)) (wgTup 2 (wgCons (wName 3) (wgCons (wName 4) wgNil))) (wFor (wSeqI (wVar 1)) (wgTup 2 (wgCons (wName 5) (wgCons (wName 6) wgNil))) (wSeq (wSetF 7 (wTup (wCons (wVar 3) (wCons (wVar 5) (wCons (wBin (dI0 fun i j => .int (i - j)) (wVar 4) (wVar 6)) wNil)))))
  (wIfS (wAnd (wB (wBin (dI0 fun i j => .bl (decide (j ≤ i))) (wVar 4) (wVar 6))) (wB (wCall 2 FIsPossible noX (wCons (wVar 0) (wCons (wVar 7) wNil))))) (wDrop (wAppend 2 (wCons (wVar 7) wNil))) wNext))))
  (wRet (wVar 2))))
def FS_pairs_led : Fd := mkF (pin [0, 1]) 8 (fun _ => wS_pairs_led)
end DL

set_option Elab.async false
set_option linter.all false
set_option maxRecDepth 100000
set_option maxHeartbeats 4000000
set_option exponentiation.threshold 3000
namespace DL
open PySem L2
/-! ### all clashing pairs, as the program finds them -/
def clG (w : Str) (n : Int) (e : Grp) : List (List Int) := (prG w n e.2 e.2).map fun r => r ++ [e.1.1]
def clL (sts rule : List (List Int)) (w : Str) (n : Int) : List (List Int) := (ledG (steps sts rule)).flatMap (clG w n)
def wS_clash_pairs (C : Addr) (R1 R2 : Xp → Ws) : Ws := (wSeq (wDrop (wCall 2 (FS_check_rule C R1) noX (wCons (wVar 0) (wCons (wVar 1) wNil))))
  (wSeq (wDrop (wCall 1 (FCheckService R2) noX (wCons (wVar 2) wNil)))
  (wSeq (wSet 3 (wLst wNil))
  (wSeq (wSet 4 (wCall 2 (FS_rows_led C) noX (wCons (wVar 0) (wCons (wVar 1) wNil))))
  (wSeq (wFor (wItemsT 4) (wgTup 2 (wgCons (wgTup 2 (wgCons (wName 6) (wgCons (wName 7) wgNil))) (wgCons (wName 5) wgNil))) (wDrop (wExtend 3 (wCons (wLc [8] (wSeqI (wCall 2 FS_pairs_led noX (wCons (wVar 2) (wCons (wVar 5) wNil)))) (wName 8) wYes (wBin dAdd (wVar 8) (wTup (wCons (wVar 6) wNil)))) wNil))))
  (wRet (wCB dTuple (wCons (wCB dSorted (wCons (wVar 3) wNil)) wNil))))))))
def FS_clash_pairs (C : Addr) (R1 R2 : Xp → Ws) : Fd := mkF (pin [0, 1, 2]) 9 (fun _ => wS_clash_pairs C R1 R2)
end DL

set_option Elab.async false
set_option linter.all false
set_option maxRecDepth 100000
set_option maxHeartbeats 4000000
set_option exponentiation.threshold 3000
namespace DL
open PySem L2
/-! ### the same pairs, by walks along the lanes -/
def lnR (rule : List (List Int)) (x s : Nat) : Int := (rule.getD x []).getD s 0
def tmR (sts rule : List (List Int)) (x s : Nat) : Int := (ahZ sts (rule.getD x []) 0).getD s 0
def pR (sts rule : List (List Int)) (x s : Nat) : Stp4 := (((s : Int), lnR rule x s), ((x : Int), tmR sts rule x s))
/-- all rows have as many parts as there are stages -/
def Even (sts rule : List (List Int)) : Prop := ∀ r ∈ rule, r.length = sts.length
end DL

set_option Elab.async false
set_option linter.all false
set_option maxRecDepth 100000
set_option maxHeartbeats 4000000
set_option exponentiation.threshold 3000
namespace DL
open PySem L2
def wLawCanBe : Ws := (wSeq (wUnp (wVar 2) (wgTup 3 (wgCons (wName 4) (wgCons (wName 5) (wgCons (wName 6) wgNil)))))
  (wSeq (wUnp (wVar 0) (wgTup 2 (wgCons (wName 7) (wgCons (wName 8) wgNil))))
  (wSeq (wIfS (wOr (wB (wBin (dI0 fun i j => .bl (decide (j < i))) (wCB dMax2 (wCons (wVar 4) (wCons (wVar 5) wNil))) (wVar 1))) (wAnd (wB (wBin dEq (wVar 8) (wC (.int 1)))) (wB (wBin dEq (wVar 6) (wC (.int 0)))))) (wRet (wC (.bl false))) wNext)
  (wSeq (wSetF 3 (wBin (dI0 fun i j => .int (i - j)) (wBin dAdd (wVar 6) (wVar 5)) (wVar 4)))
  (wSeq (wIfS (wB (wBin dEq (wVar 7) (wC (.str "any")))) (wRet (wBin dNeX (wVar 3) (wC (.int 0)))) wNext)
  (wSeq (wIfS (wB (wBin dEq (wVar 7) (wC (.str "order")))) (wRet (wBin (dI0 fun i j => .bl (decide (j ≤ i))) (wVar 3) (wC (.int 1)))) wNext)
  (wRet (wIf (wB (wBin dEq (wVar 8) (wC (.int 1)))) (wAndV (wBin dEq (wVar 4) (wC (.int 0))) (wBin dEq (wVar 5) (wC (.int 0)))) (wChain (dI0 fun i j => .bl (decide (i ≤ j))) (dI0 fun i j => .bl (decide (i ≤ j))) (wC (.int 1)) (wVar 3) (wBin (dI0 fun i j => .int (i - j)) (wBin dAdd (wBin (dI CMulX fun i j => .int (i * j)) (wVar 8) (wVar 6)) (wVar 8)) (wC (.int 1))))))))))))
def FLawCanBe : Fd := mkF (pin [0, 1, 2]) 9 (fun _ => wLawCanBe)
/-- the law's own: can a pair be -/
def canB (w : Str) (n size x y d : Int) : Bool :=
  if decide (size < (if y > x then y else x)) || (decide (n = 1) && decide (d = 0)) then false
  else if w = "any" then decide (d + y - x ≠ 0)
  else if w = "order" then decide (1 ≤ d + y - x)
  else if n = 1 then decide (x = 0) && decide (y = 0)
  else decide (1 ≤ d + y - x) && decide (d + y - x ≤ n * d + n - 1)
theorem can_ok {w : Str} {n size x y d : Int} {Q : Rz → Sl → Prop} {Ξ : Xp} (hs : Sv w n) (hd : Sm d) (h : Q (.dat (.bl (canB w n size x y d))) [.dat (sv w n), .dat (.int size), .dat (.tup [.int x, .int y, .int d])]) :
    FLawCanBe [.dat (sv w n), .dat (.int size), .dat (.tup [.int x, .int y, .int d])] Q Ξ := by
  obtain ⟨hw, n1, n2⟩ := hs
  unfold FLawCanBe mkF
  refine ⟨pinnedD (xs := [sv w n, .int size, .tup [.int x, .int y, .int d]]), ?_⟩
  have z2 : (2 : Nat) ≤ sizeLine := sz (by decide)
  have z3 : (3 : Nat) ≤ sizeLine := sz (by decide)
  unfold canB at h
  have late : ∀ (b : Bool), b = (decide (size < (if y > x then y else x)) || (decide (n = 1) && decide (d = 0))) → (b = true → Q (.dat (.bl false)) [.dat (sv w n), .dat (.int size), .dat (.tup [.int x, .int y, .int d])]) := fun b e t => by
    rw [← e, t] at h
    exact h
  simp only [wLawCanBe, sv, z2, z3, wSeq, wNext, wIfS, wSetF, wSet, into, wSetIx, wRet, wRetN, wDrop, wB, wBin, wUn, wCB, wCons, wNil, wVar, wC, wIf, wAnd, wOr, DL.wNot, wAndV, wOrV, wNotV, wTup, wLst, wSl, wNoPart, wPart, wChain, wUnp, wgTup, wgCons, wgNil, wName, wIsi, wListRg, wRg1, wRg2, wTupRg, wPuts, puts, Rz.sd, wConsH, wAppend, wExtend, ownL, dI, dI0, dIx, dInt, dAbs, dLen, dMax2, dMin2, dSum, dSumX, dAll, dAny, dList, dTuple, dAdd, dNeg, dIsN, dNotN, PD.isN, dSl, look, looks, ok, Rz.pd, SD.pd, OD.pd, Rz.cold, Rz.cool, warm, pdsOf, frz, frzAll, leave, argOf, onceB, newBor, isBor, ty_non, ty_bl, ty_int, ty_str, ty_lst, ty_scr, ty_tup, ty_dct, isa, String.reduceBEq, jR, jS, jU, uD, jW, wYes, wCall, backS_0, backS_1, backS_2, backS_3, backS_4, backS_o0, backS_o1, backS_o2, backS_o3, dEq_int, dEq_str, dNeX_int, dNeX_str, jC, jD, jE, jF, List.replicate, Nat.reduceAdd, Nat.reduceSub, jA, jB, jG, jH, jI, jJ, jK, jL, jM, jP, jQ, true_or, or_true, true_and, and_true, jV, jT, jY, jZ, uC, uA, uB, decide_true, decide_false, wFor, wRng1, wRng2, wLc, wSeqI, items, wEnumX, wCallO, wNever, noOwn, jN, jO, wipeS, jX, uE, atI0a, atI0b, atI0c, atI1b, atI1c, atI2c, wZipX, seqP, wRaise, wIsE, wVal, wMk, wPopAt, wPop, wAug, wTr, dTr, dLtX, dDivmod, wPick, pick, List.filterMap_cons, List.filterMap_nil]
  by_cases m : size < (if y > x then y else x)
  · simp only [decide_eq_true m] at h ⊢
    exact h
  by_cases q1 : n = 1 ∧ d = 0
  · simp only [decide_eq_false m, decide_eq_true q1.1, decide_eq_true q1.2] at h ⊢
    exact h
  have q2 : (decide (n = 1) && decide (d = 0)) = false := by
    by_cases a : n = 1
    · rw [decide_eq_false fun b => q1 ⟨a, b⟩, Bool.and_false]
    · rw [decide_eq_false a, Bool.false_and]
  have fine : ∀ {A B : Prop}, B → (match decide (n = 1) with | true => (match decide (d = 0) with | true => A | false => B) | false => B) := fun {A B} b => by
    by_cases h1 : n = 1
    · have h2 : ¬ d = 0 := fun z => q1 ⟨h1, z⟩
      rw [decide_eq_true h1, decide_eq_false h2]; exact b
    · rw [decide_eq_false h1]; exact b
  rw [q2, decide_eq_false m] at h
  simp only [Bool.or_self] at h
  simp only [decide_eq_false m]
  refine fine ?_
  rcases hw with rfl | rfl | rfl
  · have ne1 : ("queue" : Str) ≠ "any" := by decide +kernel
    have ne2 : ("queue" : Str) ≠ "order" := by decide +kernel
    simp only [ne1, ne2, if_false, Bool.false_eq_true] at h
    simp only [dEq_str sok_queue sok_any, dEq_str sok_queue sok_order, qa, qo, wSeq, wNext, wIfS, wSetF, wSet, into, wSetIx, wRet, wRetN, wDrop, wB, wBin, wUn, wCB, wCons, wNil, wVar, wC, wIf, wAnd, wOr, DL.wNot, wAndV, wOrV, wNotV, wTup, wLst, wSl, wNoPart, wPart, wChain, wUnp, wgTup, wgCons, wgNil, wName, wIsi, wListRg, wRg1, wRg2, wTupRg, wPuts, puts, Rz.sd, wConsH, wAppend, wExtend, ownL, dI, dI0, dIx, dInt, dAbs, dLen, dMax2, dMin2, dSum, dSumX, dAll, dAny, dList, dTuple, dAdd, dNeg, dIsN, dNotN, PD.isN, dSl, look, looks, ok, Rz.pd, SD.pd, OD.pd, Rz.cold, Rz.cool, warm, pdsOf, frz, frzAll, leave, argOf, onceB, newBor, isBor, ty_non, ty_bl, ty_int, ty_str, ty_lst, ty_scr, ty_tup, ty_dct, isa, String.reduceBEq, jR, jS, jU, uD, jW, wYes, wCall, backS_0, backS_1, backS_2, backS_3, backS_4, backS_o0, backS_o1, backS_o2, backS_o3, dEq_int, dEq_str, dNeX_int, dNeX_str, jC, jD, jE, jF, List.replicate, Nat.reduceAdd, Nat.reduceSub, jA, jB, jG, jH, jI, jJ, jK, jL, jM, jP, jQ, true_or, or_true, true_and, and_true, jV, jT, jY, jZ, uC, uA, uB, decide_true, decide_false, wFor, wRng1, wRng2, wLc, wSeqI, items, wEnumX, wCallO, wNever, noOwn, jN, jO, wipeS, jX, uE, atI0a, atI0b, atI0c, atI1b, atI1c, atI2c, wZipX, seqP, wRaise, wIsE, wVal, wMk, wPopAt, wPop, wAug, wTr, dTr, dLtX, dDivmod, wPick, pick, List.filterMap_cons, List.filterMap_nil]
    by_cases hn : n = 1
    · rw [if_pos hn] at h
      simp only [decide_eq_true hn]
      by_cases hx : x = 0
      · simp only [decide_eq_true hx, Bool.true_and] at h ⊢; exact h
      · simp only [decide_eq_false hx, Bool.false_and] at h ⊢; exact h
    · rw [if_neg hn] at h
      simp only [decide_eq_false hn]
      by_cases hg : 1 ≤ d + y - x
      · simp only [decide_eq_true hg, Bool.true_and] at h ⊢
        exact ⟨mulX (sm_big (by omega)) hd, h⟩
      · simp only [decide_eq_false hg, Bool.false_and] at h ⊢
        exact h
  · have ne1 : ("order" : Str) ≠ "any" := by decide +kernel
    simp only [ne1, if_false, if_true, Bool.false_eq_true] at h
    simp only [dEq_str sok_order sok_any, dEq_str sok_order sok_order, oa, oo, wSeq, wNext, wIfS, wSetF, wSet, into, wSetIx, wRet, wRetN, wDrop, wB, wBin, wUn, wCB, wCons, wNil, wVar, wC, wIf, wAnd, wOr, DL.wNot, wAndV, wOrV, wNotV, wTup, wLst, wSl, wNoPart, wPart, wChain, wUnp, wgTup, wgCons, wgNil, wName, wIsi, wListRg, wRg1, wRg2, wTupRg, wPuts, puts, Rz.sd, wConsH, wAppend, wExtend, ownL, dI, dI0, dIx, dInt, dAbs, dLen, dMax2, dMin2, dSum, dSumX, dAll, dAny, dList, dTuple, dAdd, dNeg, dIsN, dNotN, PD.isN, dSl, look, looks, ok, Rz.pd, SD.pd, OD.pd, Rz.cold, Rz.cool, warm, pdsOf, frz, frzAll, leave, argOf, onceB, newBor, isBor, ty_non, ty_bl, ty_int, ty_str, ty_lst, ty_scr, ty_tup, ty_dct, isa, String.reduceBEq, jR, jS, jU, uD, jW, wYes, wCall, backS_0, backS_1, backS_2, backS_3, backS_4, backS_o0, backS_o1, backS_o2, backS_o3, dEq_int, dEq_str, dNeX_int, dNeX_str, jC, jD, jE, jF, List.replicate, Nat.reduceAdd, Nat.reduceSub, jA, jB, jG, jH, jI, jJ, jK, jL, jM, jP, jQ, true_or, or_true, true_and, and_true, jV, jT, jY, jZ, uC, uA, uB, decide_true, decide_false, wFor, wRng1, wRng2, wLc, wSeqI, items, wEnumX, wCallO, wNever, noOwn, jN, jO, wipeS, jX, uE, atI0a, atI0b, atI0c, atI1b, atI1c, atI2c, wZipX, seqP, wRaise, wIsE, wVal, wMk, wPopAt, wPop, wAug, wTr, dTr, dLtX, dDivmod, wPick, pick, List.filterMap_cons, List.filterMap_nil]
    exact h
  · simp only [if_false, if_true, Bool.false_eq_true] at h
    simp only [dEq_str sok_any sok_any, aa, wSeq, wNext, wIfS, wSetF, wSet, into, wSetIx, wRet, wRetN, wDrop, wB, wBin, wUn, wCB, wCons, wNil, wVar, wC, wIf, wAnd, wOr, DL.wNot, wAndV, wOrV, wNotV, wTup, wLst, wSl, wNoPart, wPart, wChain, wUnp, wgTup, wgCons, wgNil, wName, wIsi, wListRg, wRg1, wRg2, wTupRg, wPuts, puts, Rz.sd, wConsH, wAppend, wExtend, ownL, dI, dI0, dIx, dInt, dAbs, dLen, dMax2, dMin2, dSum, dSumX, dAll, dAny, dList, dTuple, dAdd, dNeg, dIsN, dNotN, PD.isN, dSl, look, looks, ok, Rz.pd, SD.pd, OD.pd, Rz.cold, Rz.cool, warm, pdsOf, frz, frzAll, leave, argOf, onceB, newBor, isBor, ty_non, ty_bl, ty_int, ty_str, ty_lst, ty_scr, ty_tup, ty_dct, isa, String.reduceBEq, jR, jS, jU, uD, jW, wYes, wCall, backS_0, backS_1, backS_2, backS_3, backS_4, backS_o0, backS_o1, backS_o2, backS_o3, dEq_int, dEq_str, dNeX_int, dNeX_str, jC, jD, jE, jF, List.replicate, Nat.reduceAdd, Nat.reduceSub, jA, jB, jG, jH, jI, jJ, jK, jL, jM, jP, jQ, true_or, or_true, true_and, and_true, jV, jT, jY, jZ, uC, uA, uB, decide_true, decide_false, wFor, wRng1, wRng2, wLc, wSeqI, items, wEnumX, wCallO, wNever, noOwn, jN, jO, wipeS, jX, uE, atI0a, atI0b, atI0c, atI1b, atI1c, atI2c, wZipX, seqP, wRaise, wIsE, wVal, wMk, wPopAt, wPop, wAug, wTr, dTr, dLtX, dDivmod, wPick, pick, List.filterMap_cons, List.filterMap_nil]
    exact h
theorem poss_can {w : Str} {n size x y d : Int} (hs : Sv w n) (x0 : 0 ≤ x) (x1 : x ≤ size) (y0 : 0 ≤ y) (y1 : y ≤ size) (d0 : 0 ≤ d) : Poss w n x y d = canB w n size x y d := by
  obtain ⟨hw, n1, n4⟩ := hs
  have m : ¬ size < (if y > x then y else x) := by
    by_cases h : y > x
    · rw [if_pos h]; omega
    · rw [if_neg h]; omega
  have nd : (decide (size < (if y > x then y else x)) || (decide (n = 1) && decide (d = 0))) = (decide (n = 1) && decide (d = 0)) := by rw [decide_eq_false m, Bool.false_or]
  unfold Poss canB
  rw [nd]
  have hn : n = 1 ∨ n = 2 ∨ n = 3 ∨ n = 4 := by omega
  rcases hw with rfl | rfl | rfl
  · have ne1 : ("queue" : Str) ≠ "any" := by decide +kernel
    have ne2 : ("queue" : Str) ≠ "order" := by decide +kernel
    rw [if_neg ne1, if_neg ne1, if_neg ne2, if_neg ne2]
    rcases hn with rfl | rfl | rfl | rfl
    · by_cases h1 : d + y ≤ x
      · rw [if_pos h1]
        simp only [decide_true, Bool.true_and, if_true]
        split
        · rfl
        · rename_i h2
          have h2 : ¬ d = 0 := fun z => h2 (decide_eq_true z)
          symm
          rw [Bool.and_eq_false_iff, decide_eq_false_iff_not, decide_eq_false_iff_not]
          omega
      · rw [if_neg h1]
        simp only [decide_true, Bool.true_and, if_true]
        by_cases h2 : d = 0
        · rw [decide_eq_true h2, if_pos rfl]
          rw [Bool.and_eq_false_iff, decide_eq_false_iff_not, Bool.or_eq_false_iff, decide_eq_false_iff_not, decide_eq_false_iff_not]
          omega
        · rw [decide_eq_false h2, if_neg Bool.false_ne_true, Bool.eq_iff_iff]
          simp only [Bool.and_eq_true, Bool.or_eq_true, decide_eq_true_eq]
          omega
    all_goals
      simp only [show ((2 : Int) = 1) = False from by simp, show ((3 : Int) = 1) = False from by simp, show ((4 : Int) = 1) = False from by simp, decide_false, Bool.false_and, Bool.false_eq_true, if_false]
      by_cases h1 : d + y ≤ x
      · rw [if_pos h1]
        symm
        rw [Bool.and_eq_false_iff, decide_eq_false_iff_not, decide_eq_false_iff_not]
        omega
      · rw [if_neg h1, Bool.eq_iff_iff]
        simp only [Bool.and_eq_true, Bool.or_eq_true, decide_eq_true_eq]
        omega
  · have ne1 : ("order" : Str) ≠ "any" := by decide +kernel
    rw [if_neg ne1, if_neg ne1, if_pos rfl, if_pos rfl]
    by_cases h1 : d + y ≤ x
    · rw [if_pos h1]
      split
      · rfl
      · symm
        rw [decide_eq_false_iff_not]; omega
    · rw [if_neg h1]
      by_cases h2 : n = 1 ∧ d = 0
      · rw [decide_eq_true h2.1, decide_eq_true h2.2, Bool.and_self, if_pos rfl]
        rw [Bool.or_eq_false_iff, decide_eq_false_iff_not, decide_eq_false_iff_not]; omega
      · have : (decide (n = 1) && decide (d = 0)) = false := by rw [Bool.and_eq_false_iff, decide_eq_false_iff_not, decide_eq_false_iff_not]; omega
        rw [this, if_neg Bool.false_ne_true, Bool.eq_iff_iff]
        simp only [Bool.or_eq_true, decide_eq_true_eq]
        omega
  · rw [if_pos rfl, if_pos rfl]
    by_cases h2 : n = 1 ∧ d = 0
    · rw [decide_eq_true h2.1, decide_eq_true h2.2, Bool.and_self, if_pos rfl]
      simp only [Bool.and_eq_false_iff, Bool.or_eq_false_iff, decide_eq_false_iff_not]; omega
    · have : (decide (n = 1) && decide (d = 0)) = false := by rw [Bool.and_eq_false_iff, decide_eq_false_iff_not, decide_eq_false_iff_not]; omega
      rw [this, if_neg Bool.false_ne_true, Bool.eq_iff_iff]
      simp only [Bool.and_eq_true, Bool.or_eq_true, decide_eq_true_eq]
      omega
/-! ### the law's list -/
def lwc (sts rule : List (List Int)) (w : Str) (n : Int) (x y s : Nat) : List (List Int) :=
  if (decide (0 ≤ tmR sts rule x s - tmR sts rule y s) && decide (lnR rule x s = lnR rule y s)) && canB w n ((rule.length : Int) - 1) x y (tmR sts rule x s - tmR sts rule y s) then [[(x : Int), (y : Int), tmR sts rule x s - tmR sts rule y s, (s : Int)]] else []
def lwY (sts rule : List (List Int)) (w : Str) (n : Int) (x y k : Nat) : List (List Int) := (List.range k).flatMap fun s => lwc sts rule w n x y s
def lwX (sts rule : List (List Int)) (w : Str) (n : Int) (x k : Nat) : List (List Int) := (List.range k).flatMap fun y => lwY sts rule w n x y sts.length
def lawL (sts rule : List (List Int)) (w : Str) (n : Int) (k : Nat) : List (List Int) := (List.range k).flatMap fun x => lwX sts rule w n x rule.length
end DL

set_option Elab.async false
set_option linter.all false
set_option maxRecDepth 100000
set_option maxHeartbeats 4000000
set_option exponentiation.threshold 3000
namespace DL
open PySem L2
def wLawClashPairs : Ws := (wSeq (wPuts [4, 5] (wConsH (wLc [8] (wSeqI (wVar 1)) (wName 8) wYes (wCall 2 (FLawAheads) noX (wCons (wVar 0) (wCons (wVar 8) wNil)))) (wConsH (wLst wNil) wNil)))
  (wSeq (wFor (wRng1 (wCons (wCB dLen (wCons (wVar 1) wNil)) wNil)) (wName 3) (wFor (wRng1 (wCons (wCB dLen (wCons (wVar 1) wNil)) wNil)) (wName 6) (wFor (wRng1 (wCons (wCB dLen (wCons (wVar 0) wNil)) wNil)) (wName 7) (wSeq (wSetF 9 (wBin (dI0 fun i j => .int (i - j)) (wBin dIx (wBin dIx (wVar 4) (wVar 3)) (wVar 7)) (wBin dIx (wBin dIx (wVar 4) (wVar 6)) (wVar 7))))
  (wIfS (wAnd (wB (wBin (dI0 fun i j => .bl (decide (j ≤ i))) (wVar 9) (wC (.int 0)))) (wB (wBin dEq (wBin dIx (wBin dIx (wVar 1) (wVar 3)) (wVar 7)) (wBin dIx (wBin dIx (wVar 1) (wVar 6)) (wVar 7))))) (wSeq (wSetF 10 (wCall 3 (FLawCanBe) noX (wCons (wVar 2) (wCons (wBin (dI0 fun i j => .int (i - j)) (wCB dLen (wCons (wVar 1) wNil)) (wC (.int 1))) (wCons (wTup (wCons (wVar 3) (wCons (wVar 6) (wCons (wVar 9) wNil)))) wNil)))))
  (wDrop (wExtend 5 (wCons (wIf (wB (wVar 10)) (wLst (wCons (wTup (wCons (wCB dInt (wCons (wVar 3) wNil)) (wCons (wCB dInt (wCons (wVar 6) wNil)) (wCons (wCB dInt (wCons (wVar 9) wNil)) (wCons (wCB dInt (wCons (wVar 7) wNil)) wNil))))) wNil)) (wLst wNil)) wNil)))) wNext)))))
  (wRet (wCB dSorted (wCons (wVar 5) wNil)))))
def FLawClashPairs : Fd := mkF (pin [0, 1, 2]) 11 (fun _ => wLawClashPairs)
end DL

set_option Elab.async false
set_option linter.all false
set_option maxRecDepth 100000
set_option maxHeartbeats 4000000
set_option exponentiation.threshold 3000
namespace DL
open PySem L2
def wS_check_pair (R1 R2 : Ws) : Ws := (wSeq (wIfS (wOr (wNot (wB (wIsi "tuple" (wVar 1)))) (wB (wBin dNeX (wCB dLen (wCons (wVar 1) wNil)) (wC (.int 3))))) R1 wNext)
  (wSeq (wUnp (wVar 1) (wgTup 3 (wgCons (wName 2) (wgCons (wName 3) (wgCons (wName 4) wgNil)))))
  (wIfS (wNot (wAnd (wB (wCall 3 (FIsWithin) noX (wCons (wVar 2) (wCons (wC (.int 0)) (wCons (wVar 0) wNil))))) (wAnd (wB (wCall 3 (FIsWithin) noX (wCons (wVar 3) (wCons (wC (.int 0)) (wCons (wVar 0) wNil))))) (wB (wCall 3 (FIsWithin) noX (wCons (wVar 4) (wCons (wC (.int 0)) (wCons (wC (.int 400)) wNil)))))))) R2 wNext)))
def FS_check_pair (R1 R2 : Xp → Ws) : Fd := mkF (pin [0, 1]) 5 (fun Ξ => wS_check_pair (R1 Ξ) (R2 Ξ))
def wS_meets (C : Addr) (R0 R1 R2 : Xp → Ws) : Ws := (wSeq (wDrop (wCall 2 (FS_check_rule C R0) noX (wCons (wVar 0) (wCons (wVar 1) wNil))))
  (wSeq (wDrop (wCall 2 (FS_check_pair R1 R2) noX (wCons (wBin (dI0 fun i j => .int (i - j)) (wCB dLen (wCons (wVar 1) wNil)) (wC (.int 1))) (wCons (wVar 2) wNil))))
  (wSeq (wUnp (wVar 2) (wgTup 3 (wgCons (wName 5) (wgCons (wName 6) (wgCons (wName 7) wgNil)))))
  (wSeq (wSetF 3 (wCall 3 (FS_times_of C) noX (wCons (wVar 0) (wCons (wBin dIx (wVar 1) (wVar 5)) (wCons (wC (.int 0)) wNil)))))
  (wSeq (wSetF 4 (wCall 3 (FS_times_of C) noX (wCons (wVar 0) (wCons (wBin dIx (wVar 1) (wVar 6)) (wCons (wVar 7) wNil)))))
  (wRet (wCB dTuple (wCons (wLc [8] (wRng1 (wCons (wLenO C (FDevLen C) (wVar 0)) wNil)) (wName 8) (wB (wBin dEq (wBin dIx (wVar 3) (wVar 8)) (wBin dIx (wVar 4) (wVar 8)))) (wVar 8)) wNil))))))))
def FS_meets (C : Addr) (R0 R1 R2 : Xp → Ws) : Fd := mkF (pin [0, 1, 2]) 9 (fun Ξ => wS_meets C R0 R1 R2)
def wS_serves (C : Addr) (R0 R1 : Xp → Ws) : Ws := (wRet (wNotT (wCall 3 (FS_clash_pairs C R0 R1) noX (wCons (wVar 0) (wCons (wVar 1) (wCons (wVar 2) wNil))))))
def FS_serves (C : Addr) (R0 R1 : Xp → Ws) : Fd := mkF (pin [0, 1, 2]) 3 (fun Ξ => wS_serves C R0 R1)
def wSLawMeetStages : Ws := (wSeq (wUnp (wVar 2) (wgTup 3 (wgCons (wName 4) (wgCons (wName 5) (wgCons (wName 6) wgNil)))))
  (wSeq (wPuts [7, 8, 9] (wConsH (wCall 2 (FLawAheads) noX (wCons (wVar 0) (wCons (wBin dIx (wVar 1) (wVar 4)) wNil))) (wConsH (wCall 2 (FLawAheads) noX (wCons (wVar 0) (wCons (wBin dIx (wVar 1) (wVar 5)) wNil))) (wConsH (wLst wNil) wNil))))
  (wSeq (wFor (wRng1 (wCons (wCB dLen (wCons (wVar 0) wNil)) wNil)) (wName 3) (wIfS (wB (wBin dEq (wBin dIx (wVar 7) (wVar 3)) (wBin dAdd (wVar 6) (wBin dIx (wVar 8) (wVar 3))))) (wDrop (wAppend 9 (wCons (wTup (wCons (wCB dInt (wCons (wVar 3) wNil)) (wCons (wBin dEq (wBin dIx (wBin dIx (wVar 1) (wVar 4)) (wVar 3)) (wBin dIx (wBin dIx (wVar 1) (wVar 5)) (wVar 3))) wNil))) wNil))) wNext))
  (wRet (wVar 9)))))
def FSLawMeetStages : Fd := mkF (pin [0, 1, 2]) 10 (fun Ξ => wSLawMeetStages )
theorem checkPair_ok {R1 R2 : Xp → Ws} {size x y d : Int} {Q : Rz → Sl → Prop} {Ξ : Xp} (x0 : 0 ≤ x) (x1 : x ≤ size) (y0 : 0 ≤ y) (y1 : y ≤ size) (d0 : 0 ≤ d) (d1 : d ≤ 400) (h : Q (.dat .non) [.dat (.int size), .dat (.tup [.int x, .int y, .int d])]) :
    FS_check_pair R1 R2 [.dat (.int size), .dat (.tup [.int x, .int y, .int d])] Q Ξ := by
  unfold FS_check_pair mkF
  refine ⟨pinnedD (xs := [.int size, .tup [.int x, .int y, .int d]]), ?_⟩
  have kd : ∀ i : Int, Kd (.int i) := fun i => ⟨_, rfl⟩
  have wx : within (.int x) 0 size = true := by simp [within, x0, x1]
  have wy : within (.int y) 0 size = true := by simp [within, y0, y1]
  have wd : within (.int d) 0 400 = true := by simp [within, d0, d1]
  simp only [wS_check_pair, wSeq, wNext, wIfS, wSetF, wSet, into, wSetIx, wRet, wRetN, wDrop, wB, wBin, wUn, wCB, wCons, wNil, wVar, wC, wIf, wAnd, wOr, DL.wNot, wAndV, wOrV, wNotV, wTup, wLst, wSl, wNoPart, wPart, wChain, wUnp, wgTup, wgCons, wgNil, wName, wIsi, wListRg, wRg1, wRg2, wTupRg, wPuts, puts, Rz.sd, wConsH, wAppend, wExtend, ownL, dI, dI0, dIx, dInt, dAbs, dLen, dMax2, dMin2, dSum, dSumX, dAll, dAny, dList, dTuple, dAdd, dNeg, dIsN, dNotN, PD.isN, dSl, look, looks, ok, Rz.pd, SD.pd, OD.pd, Rz.cold, Rz.cool, warm, pdsOf, frz, frzAll, leave, argOf, onceB, newBor, isBor, ty_non, ty_bl, ty_int, ty_str, ty_lst, ty_scr, ty_tup, ty_dct, isa, String.reduceBEq, jR, jS, jU, uD, jW, wYes, wCall, backS_0, backS_1, backS_2, backS_3, backS_4, backS_o0, backS_o1, backS_o2, backS_o3, dEq_int, dEq_str, dNeX_int, dNeX_str, jC, jD, jE, jF, List.replicate, Nat.reduceAdd, Nat.reduceSub, jA, jB, jG, jH, jI, jJ, jK, jL, jM, jP, jQ, true_or, or_true, true_and, and_true, jV, jT, jY, jZ, uC, uA, uB, decide_true, decide_false, wFor, wRng1, wRng2, wLc, wSeqI, items, wEnumX, wCallO, wNever, noOwn, jN, jO, wipeS, jX, uE, atI0a, atI0b, atI0c, atI1b, atI1c, atI2c, wZipX, seqP, wRaise, wIsE, wVal, wMk, wPopAt, wPop, wAug, wTr, dTr, dLtX, dDivmod, wPick, pick, List.filterMap_cons, List.filterMap_nil]
  have e3 : ((3 : Nat) : Int) = 3 := rfl
  simp only [e3, ne_eq, not_true, wSeq, wNext, wIfS, wSetF, wSet, into, wSetIx, wRet, wRetN, wDrop, wB, wBin, wUn, wCB, wCons, wNil, wVar, wC, wIf, wAnd, wOr, DL.wNot, wAndV, wOrV, wNotV, wTup, wLst, wSl, wNoPart, wPart, wChain, wUnp, wgTup, wgCons, wgNil, wName, wIsi, wListRg, wRg1, wRg2, wTupRg, wPuts, puts, Rz.sd, wConsH, wAppend, wExtend, ownL, dI, dI0, dIx, dInt, dAbs, dLen, dMax2, dMin2, dSum, dSumX, dAll, dAny, dList, dTuple, dAdd, dNeg, dIsN, dNotN, PD.isN, dSl, look, looks, ok, Rz.pd, SD.pd, OD.pd, Rz.cold, Rz.cool, warm, pdsOf, frz, frzAll, leave, argOf, onceB, newBor, isBor, ty_non, ty_bl, ty_int, ty_str, ty_lst, ty_scr, ty_tup, ty_dct, isa, String.reduceBEq, jR, jS, jU, uD, jW, wYes, wCall, backS_0, backS_1, backS_2, backS_3, backS_4, backS_o0, backS_o1, backS_o2, backS_o3, dEq_int, dEq_str, dNeX_int, dNeX_str, jC, jD, jE, jF, List.replicate, Nat.reduceAdd, Nat.reduceSub, jA, jB, jG, jH, jI, jJ, jK, jL, jM, jP, jQ, true_or, or_true, true_and, and_true, jV, jT, jY, jZ, uC, uA, uB, decide_true, decide_false, wFor, wRng1, wRng2, wLc, wSeqI, items, wEnumX, wCallO, wNever, noOwn, jN, jO, wipeS, jX, uE, atI0a, atI0b, atI0c, atI1b, atI1c, atI2c, wZipX, seqP, wRaise, wIsE, wVal, wMk, wPopAt, wPop, wAug, wTr, dTr, dLtX, dDivmod, wPick, pick, List.filterMap_cons, List.filterMap_nil]
  refine isWithin_ok (kd x) ?_
  simp only [wx, wSeq, wNext, wIfS, wSetF, wSet, into, wSetIx, wRet, wRetN, wDrop, wB, wBin, wUn, wCB, wCons, wNil, wVar, wC, wIf, wAnd, wOr, DL.wNot, wAndV, wOrV, wNotV, wTup, wLst, wSl, wNoPart, wPart, wChain, wUnp, wgTup, wgCons, wgNil, wName, wIsi, wListRg, wRg1, wRg2, wTupRg, wPuts, puts, Rz.sd, wConsH, wAppend, wExtend, ownL, dI, dI0, dIx, dInt, dAbs, dLen, dMax2, dMin2, dSum, dSumX, dAll, dAny, dList, dTuple, dAdd, dNeg, dIsN, dNotN, PD.isN, dSl, look, looks, ok, Rz.pd, SD.pd, OD.pd, Rz.cold, Rz.cool, warm, pdsOf, frz, frzAll, leave, argOf, onceB, newBor, isBor, ty_non, ty_bl, ty_int, ty_str, ty_lst, ty_scr, ty_tup, ty_dct, isa, String.reduceBEq, jR, jS, jU, uD, jW, wYes, wCall, backS_0, backS_1, backS_2, backS_3, backS_4, backS_o0, backS_o1, backS_o2, backS_o3, dEq_int, dEq_str, dNeX_int, dNeX_str, jC, jD, jE, jF, List.replicate, Nat.reduceAdd, Nat.reduceSub, jA, jB, jG, jH, jI, jJ, jK, jL, jM, jP, jQ, true_or, or_true, true_and, and_true, jV, jT, jY, jZ, uC, uA, uB, decide_true, decide_false, wFor, wRng1, wRng2, wLc, wSeqI, items, wEnumX, wCallO, wNever, noOwn, jN, jO, wipeS, jX, uE, atI0a, atI0b, atI0c, atI1b, atI1c, atI2c, wZipX, seqP, wRaise, wIsE, wVal, wMk, wPopAt, wPop, wAug, wTr, dTr, dLtX, dDivmod, wPick, pick, List.filterMap_cons, List.filterMap_nil]
  refine isWithin_ok (kd y) ?_
  simp only [wy, wSeq, wNext, wIfS, wSetF, wSet, into, wSetIx, wRet, wRetN, wDrop, wB, wBin, wUn, wCB, wCons, wNil, wVar, wC, wIf, wAnd, wOr, DL.wNot, wAndV, wOrV, wNotV, wTup, wLst, wSl, wNoPart, wPart, wChain, wUnp, wgTup, wgCons, wgNil, wName, wIsi, wListRg, wRg1, wRg2, wTupRg, wPuts, puts, Rz.sd, wConsH, wAppend, wExtend, ownL, dI, dI0, dIx, dInt, dAbs, dLen, dMax2, dMin2, dSum, dSumX, dAll, dAny, dList, dTuple, dAdd, dNeg, dIsN, dNotN, PD.isN, dSl, look, looks, ok, Rz.pd, SD.pd, OD.pd, Rz.cold, Rz.cool, warm, pdsOf, frz, frzAll, leave, argOf, onceB, newBor, isBor, ty_non, ty_bl, ty_int, ty_str, ty_lst, ty_scr, ty_tup, ty_dct, isa, String.reduceBEq, jR, jS, jU, uD, jW, wYes, wCall, backS_0, backS_1, backS_2, backS_3, backS_4, backS_o0, backS_o1, backS_o2, backS_o3, dEq_int, dEq_str, dNeX_int, dNeX_str, jC, jD, jE, jF, List.replicate, Nat.reduceAdd, Nat.reduceSub, jA, jB, jG, jH, jI, jJ, jK, jL, jM, jP, jQ, true_or, or_true, true_and, and_true, jV, jT, jY, jZ, uC, uA, uB, decide_true, decide_false, wFor, wRng1, wRng2, wLc, wSeqI, items, wEnumX, wCallO, wNever, noOwn, jN, jO, wipeS, jX, uE, atI0a, atI0b, atI0c, atI1b, atI1c, atI2c, wZipX, seqP, wRaise, wIsE, wVal, wMk, wPopAt, wPop, wAug, wTr, dTr, dLtX, dDivmod, wPick, pick, List.filterMap_cons, List.filterMap_nil]
  refine isWithin_ok (kd d) ?_
  simp only [wd, wSeq, wNext, wIfS, wSetF, wSet, into, wSetIx, wRet, wRetN, wDrop, wB, wBin, wUn, wCB, wCons, wNil, wVar, wC, wIf, wAnd, wOr, DL.wNot, wAndV, wOrV, wNotV, wTup, wLst, wSl, wNoPart, wPart, wChain, wUnp, wgTup, wgCons, wgNil, wName, wIsi, wListRg, wRg1, wRg2, wTupRg, wPuts, puts, Rz.sd, wConsH, wAppend, wExtend, ownL, dI, dI0, dIx, dInt, dAbs, dLen, dMax2, dMin2, dSum, dSumX, dAll, dAny, dList, dTuple, dAdd, dNeg, dIsN, dNotN, PD.isN, dSl, look, looks, ok, Rz.pd, SD.pd, OD.pd, Rz.cold, Rz.cool, warm, pdsOf, frz, frzAll, leave, argOf, onceB, newBor, isBor, ty_non, ty_bl, ty_int, ty_str, ty_lst, ty_scr, ty_tup, ty_dct, isa, String.reduceBEq, jR, jS, jU, uD, jW, wYes, wCall, backS_0, backS_1, backS_2, backS_3, backS_4, backS_o0, backS_o1, backS_o2, backS_o3, dEq_int, dEq_str, dNeX_int, dNeX_str, jC, jD, jE, jF, List.replicate, Nat.reduceAdd, Nat.reduceSub, jA, jB, jG, jH, jI, jJ, jK, jL, jM, jP, jQ, true_or, or_true, true_and, and_true, jV, jT, jY, jZ, uC, uA, uB, decide_true, decide_false, wFor, wRng1, wRng2, wLc, wSeqI, items, wEnumX, wCallO, wNever, noOwn, jN, jO, wipeS, jX, uE, atI0a, atI0b, atI0c, atI1b, atI1c, atI2c, wZipX, seqP, wRaise, wIsE, wVal, wMk, wPopAt, wPop, wAug, wTr, dTr, dLtX, dDivmod, wPick, pick, List.filterMap_cons, List.filterMap_nil]
  exact h
end DL

set_option Elab.async false
set_option linter.all false
set_option maxRecDepth 100000
set_option maxHeartbeats 4000000
set_option exponentiation.threshold 3000
namespace DL
open PySem L2
def mtB (sts rule : List (List Int)) (x y : Nat) (d : Int) (s : Nat) : Bool := decide (tmR sts rule x s = d + tmR sts rule y s)
def meetS (sts rule : List (List Int)) (x y : Nat) (d : Int) (k : Nat) : List Nat := (List.range k).filter (mtB sts rule x y d)
def meetL (sts rule : List (List Int)) (x y : Nat) (d : Int) (k : Nat) : List PD := (meetS sts rule x y d k).map fun s : Nat => PD.tup [.int (s : Int), .bl (decide (lnR rule x s = lnR rule y s))]
end DL

set_option Elab.async false
set_option linter.all false
set_option maxRecDepth 100000
set_option maxHeartbeats 4000000
set_option exponentiation.threshold 3000
namespace DL
open PySem L2
/-! ### orders -/
/-- an order of the numbers below n -/
def Ord (os : List Int) (n : Nat) : Prop := os.Perm ((List.range n).map fun i : Nat => (i : Int))
theorem Ord.len {os : List Int} {n : Nat} (h : Ord os n) : os.length = n := by
  have := h.length_eq
  rwa [List.length_map, List.length_range] at this
theorem Ord.all {os : List Int} {n : Nat} (h : Ord os n) : ∀ o ∈ os, ∃ i : Nat, o = (i : Int) ∧ i < n := fun o ho => by
  have := h.mem_iff.mp ho
  obtain ⟨i, hi, rfl⟩ := List.mem_map.mp this
  exact ⟨i, rfl, List.mem_range.mp hi⟩
def wS_is_order : Ws := (wSeq (wIfS (wOr (wNot (wB (wIsi "tuple" (wVar 0)))) (wNot (wB (wCB dAll (wCons (wLc [2] (wSeqI (wVar 0)) (wName 2) wYes (wCall 1 FIsNumber noX (wCons (wVar 2) wNil))) wNil))))) (wRet (wC (.bl false))) wNext)
  (wRet (wBin dEq (wCB dSortedT (wCons (wVar 0) wNil)) (wListRg (wRg1 (wVar 1))))))
def FS_is_order : Fd := mkF (pin [0, 1]) 3 (fun _ => wS_is_order)
end DL

set_option Elab.async false
set_option linter.all false
set_option maxRecDepth 100000
set_option maxHeartbeats 4000000
set_option exponentiation.threshold 3000
namespace DL
open PySem L2
/-! ### stages in another order -/
def mvS (os : List Int) (sts : List (List Int)) : List (List Int) := os.map fun o => sts.getD o.toNat []
def mvR (os : List Int) (row : List Int) : List Int := os.map fun o => row.getD o.toNat 0
def wS_moved_device (C : Addr) (R1 R2 R3 : Xp → Ws) (R0 : Ws) : Ws := (wSeq (wIfS (wNot (wB (wCall 2 FS_is_order noX (wCons (wVar 1) (wCons (wLenO C (FDevLen C) (wVar 0)) wNil))))) R0 wNext)
  (wRet (wMake C "stages" "text" (FReadStages R1 R2) noX (wCons (wCall 1 (FDeviceText R3) noX (wCons (wCB dTuple (wCons (wLc [2] (wSeqI (wVar 1)) (wName 2) wYes (wBin dIx (wFld C "stages" (wVar 0)) (wVar 2))) wNil)) wNil)) wNil))))
def FS_moved_device (C : Addr) (R1 R2 R3 R0 : Xp → Ws) : Fd := mkF (pin [0, 1]) 3 (fun Ξ => wS_moved_device C R1 R2 R3 (R0 Ξ))
def wS_moved_rule (C : Addr) (R1 : Xp → Ws) (R0 : Ws) : Ws := (wSeq (wDrop (wCall 2 (FS_check_rule C R1) noX (wCons (wVar 0) (wCons (wVar 1) wNil))))
  (wSeq (wIfS (wNot (wB (wCall 2 FS_is_order noX (wCons (wVar 2) (wCons (wLenO C (FDevLen C) (wVar 0)) wNil))))) R0 wNext)
  (wRet (wCB dTuple (wCons (wLc [3] (wSeqI (wVar 1)) (wName 3) wYes (wCB dTuple (wCons (wLc [4] (wSeqI (wVar 2)) (wName 4) wYes (wBin dIx (wVar 3) (wVar 4))) wNil))) wNil)))))
def FS_moved_rule (C : Addr) (R1 R0 : Xp → Ws) : Fd := mkF (pin [0, 1, 2]) 5 (fun Ξ => wS_moved_rule C R1 (R0 Ξ))
end DL

set_option Elab.async false
set_option linter.all false
set_option maxRecDepth 100000
set_option maxHeartbeats 4000000
set_option exponentiation.threshold 3000
namespace DL
open PySem L2 Builtin.Str
end DL

set_option Elab.async false
set_option linter.all false
set_option maxRecDepth 100000
set_option maxHeartbeats 4000000
set_option exponentiation.threshold 3000
namespace DL
open PySem L2
/-! ### turned about -/
def lensR (sts : List (List Int)) (row : List Int) : List Int := (sts.zip row).map fun p => p.1.getD p.2.toNat 0
end DL

set_option Elab.async false
set_option linter.all false
set_option maxRecDepth 100000
set_option maxHeartbeats 4000000
set_option exponentiation.threshold 3000
namespace DL
open PySem L2
def wS_turned (C : Addr) (R1 R2 R3 : Xp → Ws) : Ws := (wRet (wMake C "stages" "text" (FReadStages R1 R2) noX (wCons (wCall 1 (FDeviceText R3) noX (wCons (wRevA (wFld C "stages" (wVar 0))) wNil)) wNil)))
def FS_turned (C : Addr) (R1 R2 R3 : Xp → Ws) : Fd := mkF (pin [0]) 1 (fun _ => wS_turned C R1 R2 R3)
def wS_turned_rule (C : Addr) (R1 : Xp → Ws) : Ws := (wSeq (wDrop (wCall 2 (FS_check_rule C R1) noX (wCons (wVar 0) (wCons (wVar 1) wNil))))
  (wRet (wCB dTuple (wCons (wLc [2] (wSeqI (wVar 1)) (wName 2) wYes (wRevA (wVar 2))) wNil))))
def FS_turned_rule (C : Addr) (R1 : Xp → Ws) : Fd := mkF (pin [0, 1]) 3 (fun _ => wS_turned_rule C R1)
end DL

set_option Elab.async false
set_option linter.all false
set_option maxRecDepth 100000
set_option maxHeartbeats 4000000
set_option exponentiation.threshold 3000
namespace DL
open PySem L2
/-! ### beginnings of a rule -/
def clB (sts rule : List (List Int)) (w : Str) (n : Int) (x y s : Nat) : Bool := (decide (0 ≤ tmR sts rule x s - tmR sts rule y s) && decide (lnR rule x s = lnR rule y s)) && canB w n ((rule.length : Int) - 1) x y (tmR sts rule x s - tmR sts rule y s)
/-- no clash among the first k rows -/
def NoCl (sts rule : List (List Int)) (w : Str) (n : Int) (k : Nat) : Prop := ∀ x y s : Nat, x < k → y < k → s < sts.length → clB sts rule w n x y s = false
theorem noCl_less {sts rule : List (List Int)} {w : Str} {n : Int} {m k : Nat} (h : NoCl sts rule w n m) (hk : k ≤ m) : NoCl sts rule w n k := fun x y s hx hy hs => h x y s (by omega) (by omega) hs
/-- the greatest size of a beginning that serves -/
structure SafeV (sts rule : List (List Int)) (w : Str) (n : Int) (v : Nat) : Prop where
  lt : v < rule.length
  no : NoCl sts rule w n (v + 1)
  up : v + 1 < rule.length → ¬ NoCl sts rule w n (v + 2)
theorem SafeV.one {sts rule : List (List Int)} {w : Str} {n : Int} {u v : Nat} (a : SafeV sts rule w n u) (b : SafeV sts rule w n v) : u = v := by
  rcases Nat.lt_trichotomy u v with h | h | h
  · have := b.lt
    exact absurd (noCl_less b.no (by omega)) (a.up (by omega))
  · exact h
  · have := a.lt
    exact absurd (noCl_less a.no (by omega)) (b.up (by omega))
theorem can_out {w : Str} {n size x y d : Int} (hx : x ≤ size) (hy : y ≤ size) : canB w n size x y d = if n = 1 ∧ d = 0 then false else if w = "any" then decide (d + y - x ≠ 0) else if w = "order" then decide (1 ≤ d + y - x) else if n = 1 then decide (x = 0) && decide (y = 0) else decide (1 ≤ d + y - x) && decide (d + y - x ≤ n * d + n - 1) := by
  have m : ¬ size < (if y > x then y else x) := by
    by_cases h : y > x
    · rw [if_pos h]; omega
    · rw [if_neg h]; omega
  unfold canB
  rw [decide_eq_false m, Bool.false_or]
  by_cases q : n = 1 ∧ d = 0
  · rw [if_pos q, decide_eq_true q.1, decide_eq_true q.2]; rfl
  · rw [if_neg q]
    have : (decide (n = 1) && decide (d = 0)) = false := by
      rw [Bool.and_eq_false_iff, decide_eq_false_iff_not, decide_eq_false_iff_not]; omega
    rw [this]; rfl
/-! ### more lenient services -/
end DL

set_option Elab.async false
set_option linter.all false
set_option maxRecDepth 100000
set_option maxHeartbeats 4000000
set_option exponentiation.threshold 3000
namespace DL
open PySem L2
def wLawSafe : Ws := (wSeq (wSetF 3 (wC (.int 0)))
  (wSeq (wFor (wRng1 (wCons (wCB dLen (wCons (wVar 1) wNil)) wNil)) (wName 4) (wSeq (wIfS (wB (wBin dNeX (wCall 3 FLawClashPairs noX (wCons (wVar 0) (wCons (wSl (wVar 1) wNoPart (wPart (wBin dAdd (wVar 4) (wC (.int 1))))) (wCons (wVar 2) wNil)))) (wLst wNil))) wBreak wNext)
  (wSetF 3 (wVar 4))))
  (wRet (wCB dInt (wCons (wVar 3) wNil)))))
def FLawSafe : Fd := mkF (pin [0, 1, 2]) 5 (fun _ => wLawSafe)
end DL

set_option Elab.async false
set_option linter.all false
set_option maxRecDepth 100000
set_option maxHeartbeats 4000000
set_option exponentiation.threshold 3000
namespace DL
open PySem L2
/-! ### rows and rules, of any values -/
/-- a value without odd things: its kind is known, and that of its items -/
def Tame1 (d : PD) : Prop := Kd d ∧ ∀ ys, d = .tup ys → ys.length ≤ 1000 ∧ ∀ y ∈ ys, Kd y
def Tame2 (d : PD) : Prop := Kd d ∧ ∀ ys, d = .tup ys → ys.length ≤ 1000 ∧ ∀ y ∈ ys, Tame1 y
def rowA (sts : List (List Int)) : PD → Bool
  | .tup ys => decide (ys.length = sts.length) && (sts.zip ys).all fun p => within p.2 0 ((p.1.length : Int) - 1)
  | _ => false
def rowAG : PD → PD
  | .tup [.tup ls, d] => .bl (within d 0 ((ls.length : Int) - 1))
  | _ => .non
def unIs : PD → List Int
  | .tup ys => ys.map unI
  | _ => []
/-- a row of a told delay -/
def rowD (sts : List (List Int)) (d : PD) (i : Int) : Bool := rowA sts d && decide (delayOf sts (unIs d) = i)
def rulAG (sts : List (List Int)) : PD → PD
  | .tup [.int i, d] => .bl (rowD sts d i)
  | _ => .non
def ruleA (sts : List (List Int)) : PD → Bool
  | .tup xs => decide (1 ≤ xs.length) && decide (xs.length ≤ 401) && ((List.range xs.length).all fun i => rowD sts (xs.getD i .non) (i : Int))
  | _ => false
end DL

set_option Elab.async false
set_option linter.all false
set_option maxRecDepth 100000
set_option maxHeartbeats 4000000
set_option exponentiation.threshold 3000
namespace DL
open PySem L2
def wLawIsRule : Ws := (wSeq (wIfS (wOr (wNot (wB (wIsi "tuple" (wVar 1)))) (wNot (wB (wChain (dI0 fun i j => .bl (decide (i ≤ j))) (dI0 fun i j => .bl (decide (i ≤ j))) (wC (.int 1)) (wCB dLen (wCons (wVar 1) wNil)) (wC (.int 401)))))) (wRet (wC (.bl false))) wNext)
  (wSeq (wFor (wEnumX (wCons (wVar 1) wNil)) (wgTup 2 (wgCons (wName 2) (wgCons (wName 3) wgNil))) (wSeq (wIfS (wOr (wNot (wB (wIsi "tuple" (wVar 3)))) (wB (wBin dNeX (wCB dLen (wCons (wVar 3) wNil)) (wCB dLen (wCons (wVar 0) wNil))))) (wRet (wC (.bl false))) wNext)
  (wSeq (wFor (wZipX (wCons (wVar 3) (wCons (wVar 0) wNil))) (wgTup 2 (wgCons (wName 4) (wgCons (wName 5) wgNil))) (wIfS (wOr (wNot (wB (wIsi "int" (wVar 4)))) (wOr (wB (wIsi "bool" (wVar 4))) (wNot (wB (wChain (dI0 fun i j => .bl (decide (i ≤ j))) (dI0 fun i j => .bl (decide (i < j))) (wC (.int 0)) (wVar 4) (wCB dLen (wCons (wVar 5) wNil))))))) (wRet (wC (.bl false))) wNext))
  (wIfS (wB (wBin dNeX (wCall 2 FLawRowDelay noX (wCons (wVar 0) (wCons (wVar 3) wNil))) (wVar 2))) (wRet (wC (.bl false))) wNext))))
  (wRet (wC (.bl true)))))
def FLawIsRule : Fd := mkF (pin [0, 1]) 6 (fun _ => wLawIsRule)
end DL

set_option Elab.async false
set_option linter.all false
set_option maxRecDepth 100000
set_option maxHeartbeats 4000000
set_option exponentiation.threshold 3000
namespace DL
open PySem L2
/-! ### all rows of a device, and by their delays -/
def rowStep (n : Nat) : PD → List PD
  | .tup xs => (List.range n).map fun (l : Nat) => .tup (xs ++ [.int (l : Int)])
  | _ => []
def wRowsOf (C : Addr) : Ws := (wSeq (wSetF 1 (wLst (wCons (wTup wNil) wNil)))
  (wSeq (wFor (wSeqI (wFld C "stages" (wVar 0))) (wName 2) (wSetF 1 (wLc2 [3, 4] [4] (wSeqI (wVar 1)) (wName 3) wYes (wRng1 (wCons (wCB dLen (wCons (wVar 2) wNil)) wNil)) (wName 4) wYes (wBin dAdd (wVar 3) (wTup (wCons (wVar 4) wNil))))))
  (wRet (wCB dTuple (wCons (wVar 1) wNil)))))
def FRowsOf (C : Addr) : Fd := mkF (pin [0]) 5 (fun _ => wRowsOf C)
/-- the rows of each delay below n -/
def byR (sts : List (List Int)) (rows : List (List Int)) (n : Nat) : List (List (List Int)) := (List.range n).map fun (d : Nat) => rows.filter fun r => decide (delayOf sts r = (d : Int))
abbrev rowsP (rows : List (List Int)) : PD := .lst (rows.map bsP)
abbrev byP (sts rows : List (List Int)) (n : Nat) : PD := .lst ((byR sts rows n).map rowsP)
abbrev byH (sts rows : List (List Int)) (n : Nat) : List (List PD) := (byR sts rows n).map fun rs => rs.map bsP
def wByBody (C : Addr) : WsK := (wSeqK (wLiftK (wSetF 4 (wCall 2 (FDelayThrough C) noX (wCons (wVar 0) (wCons (wVar 3) wNil)))))
  (wIfK (wB (wBin (dI0 fun i j => .bl (decide (i ≤ j))) (wVar 4) (wVar 1))) (wAppK (wVar 4) (wCons (wVar 3) wNil))))
def wRowsByDelay (C : Addr) (R : Ws) : Ws := (wSeq (wIfS (wNot (wB (wCall 3 FIsWithin noX (wCons (wVar 1) (wCons (wC (.int 0)) (wCons (wC (.int 400)) wNil)))))) R wNext)
  (wLists (wRng1 (wCons (wBin dAdd (wVar 1) (wC (.int 1))) wNil)) 5 (wLst wNil) 2 (wForK (wSeqI (wCall 1 (FRowsOf C) noX (wCons (wVar 0) wNil))) (wName 3) (wByBody C))
  (wRet (wVar 2))))
def FRowsByDelay (C : Addr) (R : Xp → Ws) : Fd := mkF (pin [0, 1]) 6 (fun Ξ => wRowsByDelay C (R Ξ))
end DL

set_option Elab.async false
set_option linter.all false
set_option maxRecDepth 100000
set_option maxHeartbeats 4000000
set_option exponentiation.threshold 3000
namespace DL
open PySem L2
/-! ### the least rule, and how many there are -/
def rowsAt (sts : List (List Int)) (d : Nat) : List (List Int) := (rowsF sts).filter fun r => decide (delayOf sts r = (d : Int))
def leastOf (sts : List (List Int)) (n : Nat) : List (List Int) := (List.range n).map fun d => (rowsAt sts d).headD []
def wLeastRule (C L : Addr) (R : Xp → Ws) (Ξ : Xp) : Ws := (wSeq (wSetF 2 (wCall 2 (FRowsByDelay C R) Ξ (wCons (wVar 0) (wCons (wVar 1) wNil))))
  (wSeq (wFor (wEnumX (wCons (wVar 2) wNil)) (wgTup 2 (wgCons (wName 3) (wgCons (wName 4) wgNil))) (wIfS (wNot (wTr (wVar 4))) (wRaise L Ξ (wCons (wVar 3) wNil)) wNext))
  (wRet (wCB dTuple (wCons (wLc [4] (wSeqI (wVar 2)) (wName 4) wYes (wBin dIx (wVar 4) (wC (.int 0)))) wNil)))))
def FLeastRule (C L : Addr) (R : Xp → Ws) : Fd := mkF (pin [0, 1]) 5 (wLeastRule C L R)
def headG : PD → PD
  | .lst (x :: _) => x
  | _ => .non
/-! how many -/
def manyOf (lens : List Nat) : Nat := lens.foldl (· * ·) 1
def lensOf (sts : List (List Int)) (n : Nat) : List Nat := (byR sts (rowsF sts) n).map List.length
def wRulesMany (C : Addr) (R : Xp → Ws) (Ξ : Xp) : Ws := (wSeq (wSetF 2 (wC (.int 1)))
  (wSeq (wFor (wSeqI (wCall 2 (FRowsByDelay C R) Ξ (wCons (wVar 0) (wCons (wVar 1) wNil)))) (wName 3) (wAug 2 (dI CMulX fun i j => .int (i * j)) (wCB dLen (wCons (wVar 3) wNil))))
  (wRet (wVar 2))))
def FRulesMany (C : Addr) (R : Xp → Ws) : Fd := mkF (pin [0, 1]) 4 (wRulesMany C R)
end DL

set_option Elab.async false
set_option linter.all false
set_option maxRecDepth 100000
set_option maxHeartbeats 4000000
set_option exponentiation.threshold 3000
namespace DL
open PySem L2
def mxR (r : List Int) : Int := if r.getD 1 0 > r.getD 0 0 then r.getD 1 0 else r.getD 0 0
theorem intsOf_is : ∀ l : List Int, intsOf (l.map .int) = some l
  | [] => rfl
  | x :: l => by rw [List.map_cons, intsOf, intsOf_is l]
def wS_safe_size (C : Addr) (R0 R1 : Xp → Ws) : Ws := (wSeq (wSetF 3 (wCall 3 (FS_clash_pairs C R0 R1) noX (wCons (wVar 0) (wCons (wVar 1) (wCons (wVar 2) wNil)))))
  (wRet (wBin (dI0 fun i j => .int (i - j)) (wCB dMinL (wCons (wBin dAdd (wLst (wCons (wCB dLen (wCons (wVar 1) wNil)) wNil)) (wLc [4] (wSeqI (wVar 3)) (wName 4) wYes (wCB dMax2 (wCons (wBin dIx (wVar 4) (wC (.int 0))) (wCons (wBin dIx (wVar 4) (wC (.int 1))) wNil))))) wNil)) (wC (.int 1)))))
def FS_safe_size (C : Addr) (R0 R1 : Xp → Ws) : Fd := mkF (pin [0, 1, 2]) 5 (fun _ => wS_safe_size C R0 R1)
end DL

set_option Elab.async false
set_option linter.all false
set_option maxRecDepth 100000
set_option maxHeartbeats 4000000
set_option exponentiation.threshold 3000
namespace DL
open PySem L2
def wLawInLine (SV : Fd) : Ws := (wSeq (wSet 2 wDnewT)
  (wSeq (wFor (wSeqI (wTup (wCons (wC (.str "queue")) (wCons (wC (.str "order")) (wCons (wC (.str "any")) wNil))))) (wName 3) (wFor (wRng2 (wCons (wC (.int 1)) (wCons (wC (.int 5)) wNil))) (wName 4) (wDPutT 2 (wCons (wVar 3) (wCons (wVar 4) wNil)) (wCall 3 SV noX (wCons (wVar 0) (wCons (wVar 1) (wCons (wTup (wCons (wVar 3) (wCons (wCB dInt (wCons (wVar 4) wNil)) wNil))) wNil)))))))
  (wSeq (wFor (wRng2 (wCons (wC (.int 1)) (wCons (wC (.int 5)) wNil))) (wName 4) (wSeq (wIfS (wOr (wAnd (wB (wDIxT 2 (wCons (wC (.str "any")) (wCons (wVar 4) wNil)))) (wNot (wB (wDIxT 2 (wCons (wC (.str "order")) (wCons (wVar 4) wNil)))))) (wAnd (wB (wDIxT 2 (wCons (wC (.str "order")) (wCons (wVar 4) wNil)))) (wNot (wB (wDIxT 2 (wCons (wC (.str "queue")) (wCons (wVar 4) wNil))))))) (wRet (wC (.bl false))) wNext)
  (wIfS (wAnd (wB (wBin (dI0 fun i j => .bl (decide (j < i))) (wVar 4) (wC (.int 1)))) (wB (wCB dAny (wCons (wLc [3] (wSeqI (wTup (wCons (wC (.str "queue")) (wCons (wC (.str "order")) (wCons (wC (.str "any")) wNil))))) (wName 3) wYes (wAndV (wDIxT 2 (wCons (wVar 3) (wCons (wVar 4) wNil))) (wNotV (wDIxT 2 (wCons (wVar 3) (wCons (wBin (dI0 fun i j => .int (i - j)) (wVar 4) (wC (.int 1))) wNil)))))) wNil)))) (wRet (wC (.bl false))) wNext)))
  (wRet (wBin dIsB (wDIxT 2 (wCons (wC (.str "queue")) (wCons (wC (.int 1)) wNil))) (wC (.bl true)))))))
def FLawInLine (SV : Fd) : Fd := mkF (pin [0, 1]) 5 (fun _ => wLawInLine SV)
/-- whether a rule serves, for each of these services -/
def tvE (sts rule : List (List Int)) (p : Str × Int) : List Key × PD := ([.inr p.1, .inl p.2], .bl (clL sts rule p.1 p.2).isEmpty)
end DL

set_option Elab.async false
set_option linter.all false
set_option maxRecDepth 100000
set_option maxHeartbeats 4000000
set_option exponentiation.threshold 3000
namespace DL
open PySem L2
/-! ### by figures a queue of n has no clash -/
abbrev figR (ns : List Int) : List (List Int) := (List.range (prodL ns).toNat).map fun i => figs ns 1 (i : Nat)
end DL

set_option Elab.async false
set_option linter.all false
set_option maxRecDepth 100000
set_option maxHeartbeats 4000000
set_option exponentiation.threshold 3000
namespace DL
open PySem L2
/-! ### the packets of a queue: how near one another they leave -/
def Near (n : Int) (p q : Int × Int) : Prop := p.1 ≤ q.1 ∧ 1 ≤ q.1 - p.1 + q.2 - p.2 ∧ q.1 - p.1 + q.2 - p.2 ≤ n * (q.1 - p.1) + n - 1
theorem mul_step (n t i : Int) : n * (t - (i + 1)) = n * (t - i) - n := by
  rw [Int.mul_sub, Int.mul_sub, Int.mul_add, Int.mul_one]; omega
theorem pk_bound {n size : Int} (n1 : 1 ≤ n) : ∀ (cs : List Int) (l i : Int), FitQ n size cs l → 0 ≤ l → ∀ q ∈ pkR (rowsI cs l) i, i ≤ q.1 ∧ i + l ≤ q.1 + q.2 ∧ q.1 + q.2 ≤ i + l + n * (q.1 - i) + n - 1
  | [], _, _, _, _, q, h => nomatch h
  | c :: cs, l, i, ⟨⟨c0, c1, _⟩, hf⟩, hl, q, h => by
    rw [rowsI, pkR] at h
    rcases List.mem_append.mp h with h | h
    · obtain ⟨d, hd, rfl⟩ := List.mem_map.mp h
      obtain ⟨k, hk, rfl⟩ := List.mem_map.mp hd
      have := List.mem_range.mp hk
      show i ≤ i ∧ i + l ≤ i + (l + (k : Int)) ∧ i + (l + (k : Int)) ≤ i + l + n * (i - i) + n - 1
      rw [Int.sub_self, Int.mul_zero]
      omega
    · have hn : 0 ≤ nextL l c ∧ l - 1 ≤ nextL l c ∧ nextL l c ≤ l + n - 1 := by unfold nextL; split <;> omega
      obtain ⟨a, b, e⟩ := pk_bound n1 cs (nextL l c) (i + 1) hf hn.1 q h
      rw [mul_step] at e
      omega
theorem near_rows {n size : Int} (n1 : 1 ≤ n) : ∀ (cs : List Int) (l i : Int), FitQ n size cs l → 0 ≤ l → (pkR (rowsI cs l) i).Pairwise (Near n)
  | [], _, _, _, _ => .nil
  | c :: cs, l, i, ⟨⟨c0, c1, _⟩, hf⟩, hl => by
    have hn0 : 0 ≤ nextL l c := by unfold nextL; split <;> omega
    rw [rowsI, pkR]
    refine List.pairwise_append.mpr ⟨?_, near_rows n1 cs (nextL l c) (i + 1) hf hn0, fun p hp q hq => ?_⟩
    · rw [List.map_map]
      refine List.pairwise_map.mpr ?_
      refine (List.pairwise_iff_getElem.mpr fun a b ha hb hab => ?_)
      rw [List.getElem_range, List.getElem_range]
      rw [List.length_range] at ha hb
      show i ≤ i ∧ 1 ≤ i - i + (l + (b : Int)) - (l + (a : Int)) ∧ i - i + (l + (b : Int)) - (l + (a : Int)) ≤ n * (i - i) + n - 1
      rw [Int.sub_self, Int.mul_zero]
      omega
    · obtain ⟨d, hd, rfl⟩ := List.mem_map.mp hp
      obtain ⟨k, hk, rfl⟩ := List.mem_map.mp hd
      have hk := List.mem_range.mp hk
      obtain ⟨a, b, e⟩ := pk_bound n1 cs (nextL l c) (i + 1) hf hn0 q hq
      have hn : nextL l c = l + c - 1 := by unfold nextL; rw [if_neg (by omega)]
      rw [mul_step, hn] at e
      rw [hn] at b
      show i ≤ q.1 ∧ 1 ≤ q.1 - i + q.2 - (l + (k : Int)) ∧ q.1 - i + q.2 - (l + (k : Int)) ≤ n * (q.1 - i) + n - 1
      omega
end DL

set_option Elab.async false
set_option linter.all false
set_option maxRecDepth 100000
set_option maxHeartbeats 4000000
set_option exponentiation.threshold 3000
namespace DL
open PySem L2
/-! ### pairs in a queue: how late the first of them comes -/
def Near2 (n l0 i0 : Int) (p q : Int × Int) : Prop := p.1 ≤ q.1 ∧ 1 ≤ q.1 - p.1 + q.2 - p.2 ∧ ∃ l k : Int, p.2 = l + k ∧ 0 ≤ k ∧ k < n ∧ 0 ≤ l ∧ l ≤ l0 + (n - 1) * (p.1 - i0) ∧ q.1 - p.1 + q.2 - p.2 ≤ n * (q.1 - p.1) + n - 1 - k
def mn3 (a b c : Int) : Int := if b < a then (if c < b then c else b) else (if c < a then c else a)
/-- the fewest slots in which a pair of a queue of two and more can be -/
def fewQ (n x y d : Int) : Int := (x - (mn3 n (n * d + n - (d + y - x)) (x + 1) - 1) + n - 2) / (n - 1) + d + 1
end DL

set_option Elab.async false
set_option linter.all false
set_option maxRecDepth 100000
set_option maxHeartbeats 4000000
set_option exponentiation.threshold 3000
namespace DL
open PySem L2
/-! ### the law's fewest slots -/
def wLawFewest : Ws := (wSeq (wUnp (wVar 1) (wgTup 3 (wgCons (wName 4) (wgCons (wName 5) (wgCons (wName 6) wgNil)))))
  (wSeq (wUnp (wVar 0) (wgTup 2 (wgCons (wName 7) (wgCons (wName 8) wgNil))))
  (wSeq (wIfS (wOr (wB (wBin dNeX (wVar 7) (wC (.str "queue")))) (wOr (wAnd (wB (wBin dEq (wVar 4) (wC (.int 0)))) (wB (wBin dEq (wBin dAdd (wVar 6) (wVar 5)) (wC (.int 0))))) (wB (wBin dEq (wVar 8) (wC (.int 1)))))) (wRet (wCB dInt (wCons (wBin dAdd (wVar 6) (wC (.int 1))) wNil))) wNext)
  (wSeq (wSetF 2 (wCB dMin3 (wCons (wVar 8) (wCons (wBin (dI0 fun i j => .int (i - j)) (wBin dAdd (wBin (dI CMulX fun i j => .int (i * j)) (wVar 8) (wVar 6)) (wVar 8)) (wBin (dI0 fun i j => .int (i - j)) (wBin dAdd (wVar 6) (wVar 5)) (wVar 4))) (wCons (wBin dAdd (wVar 4) (wC (.int 1))) wNil)))))
  (wSeq (wSetF 3 (wBin (dI0 fun i j => .int (i - j)) (wVar 4) (wBin (dI0 fun i j => .int (i - j)) (wVar 2) (wC (.int 1)))))
  (wRet (wCB dInt (wCons (wBin dAdd (wBin dAdd (wBin (dI CDivW fun i j => .int (i / j)) (wBin (dI0 fun i j => .int (i - j)) (wBin dAdd (wVar 3) (wVar 8)) (wC (.int 2))) (wBin (dI0 fun i j => .int (i - j)) (wVar 8) (wC (.int 1)))) (wVar 6)) (wC (.int 1))) wNil))))))))
def FLawFewest : Fd := mkF (pin [0, 1]) 9 (fun _ => wLawFewest)
def fewD (w : Str) (n x y d : Int) : Int := if w = "queue" ∧ ¬ (x = 0 ∧ d + y = 0) ∧ n ≠ 1 then fewQ n x y d else d + 1
end DL

set_option Elab.async false
set_option linter.all false
set_option maxRecDepth 100000
set_option maxHeartbeats 4000000
set_option exponentiation.threshold 3000
namespace DL
open PySem L2
/-! ### the program's waits and slots ahead of a pair -/
def mx3 (a b c : Int) : Int := if b > a then (if c > b then c else b) else (if c > a then c else a)
theorem mx3_is {a b c m : Int} (h1 : a ≤ m) (h2 : b ≤ m) (h3 : c ≤ m) (h4 : m = a ∨ m = b ∨ m = c) : mx3 a b c = m := by
  unfold mx3; split <;> split <;> omega
theorem mx3_ge (a b c : Int) : a ≤ mx3 a b c ∧ b ≤ mx3 a b c ∧ c ≤ mx3 a b c := by
  unfold mx3; split <;> split <;> omega
theorem mx3_or (a b c : Int) : mx3 a b c = a ∨ mx3 a b c = b ∨ mx3 a b c = c := by
  unfold mx3; split <;> split <;> omega
theorem mn3_le (a b c : Int) : mn3 a b c ≤ a ∧ mn3 a b c ≤ b ∧ mn3 a b c ≤ c := by
  unfold mn3; split <;> split <;> omega
theorem mn3_or (a b c : Int) : mn3 a b c = a ∨ mn3 a b c = b ∨ mn3 a b c = c := by
  unfold mn3; split <;> split <;> omega
def waitsQ (n x y d : Int) : Int := mx3 0 (x - (n - 1)) (y - (d + 1) * (n - 1))
/-- the law's way to say it is the program's -/
theorem waits_law (n x y d : Int) : x - (mn3 n (n * d + n - (d + y - x)) (x + 1) - 1) = waitsQ n x y d := by
  have e : (d + 1) * (n - 1) = n * d + n - d - 1 := by
    rw [Int.add_mul, Int.mul_sub, Int.one_mul, Int.mul_one, Int.mul_comm d n]; omega
  unfold waitsQ
  rw [e]
  have h1 := mn3_le n (n * d + n - (d + y - x)) (x + 1)
  have h2 := mn3_or n (n * d + n - (d + y - x)) (x + 1)
  generalize n * d = nd at *
  exact (mx3_is (by omega) (by omega) (by omega) (by omega)).symm
def firstQ (n x y d : Int) : Int := (waitsQ n x y d + n - 2) / (n - 1)
theorem few_first (n x y d : Int) : fewQ n x y d = firstQ n x y d + d + 1 := by
  unfold fewQ firstQ
  rw [waits_law]
theorem dMax3_ok {a b c : Int} {k : Rz → Prop} (h : k (.dat (.int (mx3 a b c)))) : dMax3 [.int a, .int b, .int c] k := h
def wSWaits : Ws := (wSeq (wUnp (wVar 1) (wgTup 3 (wgCons (wName 2) (wgCons (wName 3) (wgCons (wName 4) wgNil)))))
  (wRet (wCB dMax3 (wCons (wC (.int 0)) (wCons (wBin (dI0 fun i j => .int (i - j)) (wVar 2) (wBin (dI0 fun i j => .int (i - j)) (wVar 0) (wC (.int 1)))) (wCons (wBin (dI0 fun i j => .int (i - j)) (wVar 3) (wBin (dI CMulX fun i j => .int (i * j)) (wBin dAdd (wVar 4) (wC (.int 1))) (wBin (dI0 fun i j => .int (i - j)) (wVar 0) (wC (.int 1))))) wNil))))))
def FSWaits : Fd := mkF (pin [0, 1]) 5 (fun _ => wSWaits)
def pr3 (x y d : Int) : PD := .tup [.int x, .int y, .int d]
theorem waitsFirst_ok {n x y d : Int} {Q : Rz → Sl → Prop} {Ξ : Xp} (n1 : 1 ≤ n) (n4 : n ≤ 4) (hd : d.natAbs ≤ 100000) (h : Q (.dat (.int (waitsQ n x y d))) [.dat (.int n), .dat (pr3 x y d)]) : FSWaits [.dat (.int n), .dat (pr3 x y d)] Q Ξ := by
  unfold FSWaits mkF
  refine ⟨pinnedD (xs := [.int n, pr3 x y d]), ?_⟩
  have z3 : (3 : Nat) ≤ sizeLine := sz (by decide)
  simp only [wSWaits, pr3, z3, wSeq, wNext, wIfS, wSetF, wSet, into, wSetIx, wRet, wRetN, wDrop, wB, wBin, wUn, wCB, wCons, wNil, wVar, wC, wIf, wAnd, wOr, DL.wNot, wAndV, wOrV, wNotV, wTup, wLst, wSl, wNoPart, wPart, wChain, wUnp, wgTup, wgCons, wgNil, wName, wIsi, wListRg, wRg1, wRg2, wTupRg, wPuts, puts, Rz.sd, wConsH, wAppend, wExtend, ownL, dI, dI0, dIx, dInt, dAbs, dLen, dMax2, dMin2, dSum, dSumX, dAll, dAny, dList, dTuple, dAdd, dNeg, dIsN, dNotN, PD.isN, dSl, look, looks, ok, Rz.pd, SD.pd, OD.pd, Rz.cold, Rz.cool, warm, pdsOf, frz, frzAll, leave, argOf, onceB, newBor, isBor, ty_non, ty_bl, ty_int, ty_str, ty_lst, ty_scr, ty_tup, ty_dct, isa, String.reduceBEq, jR, jS, jU, uD, jW, wYes, wCall, backS_0, backS_1, backS_2, backS_3, backS_4, backS_o0, backS_o1, backS_o2, backS_o3, dEq_int, dEq_str, dNeX_int, dNeX_str, jC, jD, jE, jF, List.replicate, Nat.reduceAdd, Nat.reduceSub, jA, jB, jG, jH, jI, jJ, jK, jL, jM, jP, jQ, true_or, or_true, true_and, and_true, jV, jT, jY, jZ, uC, uA, uB, decide_true, decide_false, wFor, wRng1, wRng2, wLc, wSeqI, items, wEnumX, wCallO, wNever, noOwn, jN, jO, wipeS, jX, uE, atI0a, atI0b, atI0c, atI1b, atI1c, atI2c, wZipX, seqP, wRaise, wIsE, wVal, wMk, wPopAt, wPop, wAug, wTr, dTr, dLtX, dDivmod, wPick, pick, List.filterMap_cons, List.filterMap_nil]
  refine ⟨mulX (sm_big (by omega)) (sm_big (by omega)), dMax3_ok ?_⟩
  unfold waitsQ pr3 at h
  simp only [wSeq, wNext, wIfS, wSetF, wSet, into, wSetIx, wRet, wRetN, wDrop, wB, wBin, wUn, wCB, wCons, wNil, wVar, wC, wIf, wAnd, wOr, DL.wNot, wAndV, wOrV, wNotV, wTup, wLst, wSl, wNoPart, wPart, wChain, wUnp, wgTup, wgCons, wgNil, wName, wIsi, wListRg, wRg1, wRg2, wTupRg, wPuts, puts, Rz.sd, wConsH, wAppend, wExtend, ownL, dI, dI0, dIx, dInt, dAbs, dLen, dMax2, dMin2, dSum, dSumX, dAll, dAny, dList, dTuple, dAdd, dNeg, dIsN, dNotN, PD.isN, dSl, look, looks, ok, Rz.pd, SD.pd, OD.pd, Rz.cold, Rz.cool, warm, pdsOf, frz, frzAll, leave, argOf, onceB, newBor, isBor, ty_non, ty_bl, ty_int, ty_str, ty_lst, ty_scr, ty_tup, ty_dct, isa, String.reduceBEq, jR, jS, jU, uD, jW, wYes, wCall, backS_0, backS_1, backS_2, backS_3, backS_4, backS_o0, backS_o1, backS_o2, backS_o3, dEq_int, dEq_str, dNeX_int, dNeX_str, jC, jD, jE, jF, List.replicate, Nat.reduceAdd, Nat.reduceSub, jA, jB, jG, jH, jI, jJ, jK, jL, jM, jP, jQ, true_or, or_true, true_and, and_true, jV, jT, jY, jZ, uC, uA, uB, decide_true, decide_false, wFor, wRng1, wRng2, wLc, wSeqI, items, wEnumX, wCallO, wNever, noOwn, jN, jO, wipeS, jX, uE, atI0a, atI0b, atI0c, atI1b, atI1c, atI2c, wZipX, seqP, wRaise, wIsE, wVal, wMk, wPopAt, wPop, wAug, wTr, dTr, dLtX, dDivmod, wPick, pick, List.filterMap_cons, List.filterMap_nil]
  exact h
def wSSlots : Ws := (wSeq (wUnp (wVar 0) (wgTup 2 (wgCons (wName 2) (wgCons (wName 3) wgNil))))
  (wSeq (wIfS (wOr (wB (wBin dNeX (wVar 2) (wC (.str "queue")))) (wB (wBin dEq (wVar 3) (wC (.int 1))))) (wRet (wC (.int 0))) wNext)
  (wRet (wBin (dI CDivW fun i j => .int (i / j)) (wBin (dI0 fun i j => .int (i - j)) (wBin dAdd (wCall 2 FSWaits noX (wCons (wVar 3) (wCons (wVar 1) wNil))) (wVar 3)) (wC (.int 2))) (wBin (dI0 fun i j => .int (i - j)) (wVar 3) (wC (.int 1)))))))
def FSSlots : Fd := mkF (pin [0, 1]) 4 (fun _ => wSSlots)
theorem slotsFirst_one {x y d : Int} {Q : Rz → Sl → Prop} {Ξ : Xp} (h : Q (.dat (.int 0)) [.dat (sv "queue" 1), .dat (pr3 x y d)]) : FSSlots [.dat (sv "queue" 1), .dat (pr3 x y d)] Q Ξ := by
  unfold FSSlots mkF
  refine ⟨pinnedD (xs := [sv "queue" 1, pr3 x y d]), ?_⟩
  have z2 : (2 : Nat) ≤ sizeLine := sz (by decide)
  simp only [wSSlots, sv, z2, dNeX_str sok_queue sok_queue, ne_eq, not_true, decide_false, wSeq, wNext, wIfS, wSetF, wSet, into, wSetIx, wRet, wRetN, wDrop, wB, wBin, wUn, wCB, wCons, wNil, wVar, wC, wIf, wAnd, wOr, DL.wNot, wAndV, wOrV, wNotV, wTup, wLst, wSl, wNoPart, wPart, wChain, wUnp, wgTup, wgCons, wgNil, wName, wIsi, wListRg, wRg1, wRg2, wTupRg, wPuts, puts, Rz.sd, wConsH, wAppend, wExtend, ownL, dI, dI0, dIx, dInt, dAbs, dLen, dMax2, dMin2, dSum, dSumX, dAll, dAny, dList, dTuple, dAdd, dNeg, dIsN, dNotN, PD.isN, dSl, look, looks, ok, Rz.pd, SD.pd, OD.pd, Rz.cold, Rz.cool, warm, pdsOf, frz, frzAll, leave, argOf, onceB, newBor, isBor, ty_non, ty_bl, ty_int, ty_str, ty_lst, ty_scr, ty_tup, ty_dct, isa, String.reduceBEq, jR, jS, jU, uD, jW, wYes, wCall, backS_0, backS_1, backS_2, backS_3, backS_4, backS_o0, backS_o1, backS_o2, backS_o3, dEq_int, dEq_str, dNeX_int, dNeX_str, jC, jD, jE, jF, List.replicate, Nat.reduceAdd, Nat.reduceSub, jA, jB, jG, jH, jI, jJ, jK, jL, jM, jP, jQ, true_or, or_true, true_and, and_true, jV, jT, jY, jZ, uC, uA, uB, decide_true, decide_false, wFor, wRng1, wRng2, wLc, wSeqI, items, wEnumX, wCallO, wNever, noOwn, jN, jO, wipeS, jX, uE, atI0a, atI0b, atI0c, atI1b, atI1c, atI2c, wZipX, seqP, wRaise, wIsE, wVal, wMk, wPopAt, wPop, wAug, wTr, dTr, dLtX, dDivmod, wPick, pick, List.filterMap_cons, List.filterMap_nil]
  exact h
theorem slotsFirst_ok {n x y d : Int} {Q : Rz → Sl → Prop} {Ξ : Xp} (n2 : 2 ≤ n) (n4 : n ≤ 4) (hx : x.natAbs ≤ 100000) (hy : y.natAbs ≤ 100000) (hd : d.natAbs ≤ 100000) (h : Q (.dat (.int (firstQ n x y d))) [.dat (sv "queue" n), .dat (pr3 x y d)]) : FSSlots [.dat (sv "queue" n), .dat (pr3 x y d)] Q Ξ := by
  unfold FSSlots mkF
  refine ⟨pinnedD (xs := [sv "queue" n, pr3 x y d]), ?_⟩
  have z2 : (2 : Nat) ≤ sizeLine := sz (by decide)
  have c1 : decide (n = 1) = false := decide_eq_false (by omega)
  simp only [wSSlots, sv, z2, c1, dNeX_str sok_queue sok_queue, ne_eq, not_true, decide_false, wSeq, wNext, wIfS, wSetF, wSet, into, wSetIx, wRet, wRetN, wDrop, wB, wBin, wUn, wCB, wCons, wNil, wVar, wC, wIf, wAnd, wOr, DL.wNot, wAndV, wOrV, wNotV, wTup, wLst, wSl, wNoPart, wPart, wChain, wUnp, wgTup, wgCons, wgNil, wName, wIsi, wListRg, wRg1, wRg2, wTupRg, wPuts, puts, Rz.sd, wConsH, wAppend, wExtend, ownL, dI, dI0, dIx, dInt, dAbs, dLen, dMax2, dMin2, dSum, dSumX, dAll, dAny, dList, dTuple, dAdd, dNeg, dIsN, dNotN, PD.isN, dSl, look, looks, ok, Rz.pd, SD.pd, OD.pd, Rz.cold, Rz.cool, warm, pdsOf, frz, frzAll, leave, argOf, onceB, newBor, isBor, ty_non, ty_bl, ty_int, ty_str, ty_lst, ty_scr, ty_tup, ty_dct, isa, String.reduceBEq, jR, jS, jU, uD, jW, wYes, wCall, backS_0, backS_1, backS_2, backS_3, backS_4, backS_o0, backS_o1, backS_o2, backS_o3, dEq_int, dEq_str, dNeX_int, dNeX_str, jC, jD, jE, jF, List.replicate, Nat.reduceAdd, Nat.reduceSub, jA, jB, jG, jH, jI, jJ, jK, jL, jM, jP, jQ, true_or, or_true, true_and, and_true, jV, jT, jY, jZ, uC, uA, uB, decide_true, decide_false, wFor, wRng1, wRng2, wLc, wSeqI, items, wEnumX, wCallO, wNever, noOwn, jN, jO, wipeS, jX, uE, atI0a, atI0b, atI0c, atI1b, atI1c, atI2c, wZipX, seqP, wRaise, wIsE, wVal, wMk, wPopAt, wPop, wAug, wTr, dTr, dLtX, dDivmod, wPick, pick, List.filterMap_cons, List.filterMap_nil]
  refine waitsFirst_ok (by omega) n4 hd ?_
  have hmul : (d + 1) * (n - 1) ≤ 400000 ∧ -400000 ≤ (d + 1) * (n - 1) := by
    have h4 : n = 2 ∨ n = 3 ∨ n = 4 := by omega
    rcases h4 with rfl | rfl | rfl <;> omega
  have hw : (waitsQ n x y d).natAbs ≤ 1000000 := by
    have := mx3_or 0 (x - (n - 1)) (y - (d + 1) * (n - 1))
    unfold waitsQ
    omega
  unfold firstQ at h
  have c5 : CDivW (waitsQ n x y d + n - 2) (n - 1) := divX (by omega) (sm_big (by omega))
  simp only [c5, wSeq, wNext, wIfS, wSetF, wSet, into, wSetIx, wRet, wRetN, wDrop, wB, wBin, wUn, wCB, wCons, wNil, wVar, wC, wIf, wAnd, wOr, DL.wNot, wAndV, wOrV, wNotV, wTup, wLst, wSl, wNoPart, wPart, wChain, wUnp, wgTup, wgCons, wgNil, wName, wIsi, wListRg, wRg1, wRg2, wTupRg, wPuts, puts, Rz.sd, wConsH, wAppend, wExtend, ownL, dI, dI0, dIx, dInt, dAbs, dLen, dMax2, dMin2, dSum, dSumX, dAll, dAny, dList, dTuple, dAdd, dNeg, dIsN, dNotN, PD.isN, dSl, look, looks, ok, Rz.pd, SD.pd, OD.pd, Rz.cold, Rz.cool, warm, pdsOf, frz, frzAll, leave, argOf, onceB, newBor, isBor, ty_non, ty_bl, ty_int, ty_str, ty_lst, ty_scr, ty_tup, ty_dct, isa, String.reduceBEq, jR, jS, jU, uD, jW, wYes, wCall, backS_0, backS_1, backS_2, backS_3, backS_4, backS_o0, backS_o1, backS_o2, backS_o3, dEq_int, dEq_str, dNeX_int, dNeX_str, jC, jD, jE, jF, List.replicate, Nat.reduceAdd, Nat.reduceSub, jA, jB, jG, jH, jI, jJ, jK, jL, jM, jP, jQ, true_or, or_true, true_and, and_true, jV, jT, jY, jZ, uC, uA, uB, decide_true, decide_false, wFor, wRng1, wRng2, wLc, wSeqI, items, wEnumX, wCallO, wNever, noOwn, jN, jO, wipeS, jX, uE, atI0a, atI0b, atI0c, atI1b, atI1c, atI2c, wZipX, seqP, wRaise, wIsE, wVal, wMk, wPopAt, wPop, wAug, wTr, dTr, dLtX, dDivmod, wPick, pick, List.filterMap_cons, List.filterMap_nil]
  exact h
end DL

set_option Elab.async false
set_option linter.all false
set_option maxRecDepth 100000
set_option maxHeartbeats 4000000
set_option exponentiation.threshold 3000
namespace DL
open PySem L2
/-! ### how many wait at each slot -/
def firstD (n x y d : Int) : Int := if n = 1 then 0 else firstQ n x y d
theorem slotsD_ok {n x y d : Int} {Q : Rz → Sl → Prop} {Ξ : Xp} (n1 : 1 ≤ n) (n4 : n ≤ 4) (hx : x.natAbs ≤ 100000) (hy : y.natAbs ≤ 100000) (hd : d.natAbs ≤ 100000) (h : Q (.dat (.int (firstD n x y d))) [.dat (sv "queue" n), .dat (pr3 x y d)]) : FSSlots [.dat (sv "queue" n), .dat (pr3 x y d)] Q Ξ := by
  unfold firstD at h
  by_cases c : n = 1
  · subst c
    rw [if_pos rfl] at h
    exact slotsFirst_one h
  · rw [if_neg c] at h
    exact slotsFirst_ok (by omega) n4 hx hy hd h
def wA (n x y d F : Int) (s : Nat) : Int := if waitsQ n x y d - (F - (s : Int)) * (n - 1) > 0 then waitsQ n x y d - (F - (s : Int)) * (n - 1) else 0
def wB3 (n x y d : Int) (j : Nat) : Int := mx3 0 (x - (j : Int)) (y - (d - (j : Int)) * (n - 1))
def waitsL (n x y d F : Int) : List Int := (List.range (F + 1).toNat).map (wA n x y d F) ++ (List.range (d + 1).toNat).map (wB3 n x y d)
def wSQWaits : Ws := (wSeq (wSetF 2 (wBin dIx (wVar 0) (wC (.int 1))))
  (wSeq (wUnp (wVar 1) (wgTup 3 (wgCons (wName 7) (wgCons (wName 8) (wgCons (wName 9) wgNil)))))
  (wSeq (wSetF 3 (wCall 2 FSSlots noX (wCons (wVar 0) (wCons (wVar 1) wNil))))
  (wSeq (wSetF 4 (wBin dAdd (wBin dAdd (wVar 3) (wVar 9)) (wC (.int 1))))
  (wSeq (wSet 5 (wLc [6] (wRng1 (wCons (wBin dAdd (wVar 3) (wC (.int 1))) wNil)) (wName 6) wYes (wCB dMax2 (wCons (wC (.int 0)) (wCons (wBin (dI0 fun i j => .int (i - j)) (wCall 2 FSWaits noX (wCons (wVar 2) (wCons (wVar 1) wNil))) (wBin (dI CMulX fun i j => .int (i * j)) (wBin (dI0 fun i j => .int (i - j)) (wVar 3) (wVar 6)) (wBin (dI0 fun i j => .int (i - j)) (wVar 2) (wC (.int 1))))) wNil)))))
  (wSeq (wFor (wRng2 (wCons (wBin dAdd (wVar 3) (wC (.int 1))) (wCons (wBin dAdd (wVar 4) (wC (.int 1))) wNil))) (wName 6) (wDrop (wAppend 5 (wCons (wCB dMax3 (wCons (wC (.int 0)) (wCons (wBin (dI0 fun i j => .int (i - j)) (wVar 7) (wBin (dI0 fun i j => .int (i - j)) (wBin (dI0 fun i j => .int (i - j)) (wVar 6) (wVar 3)) (wC (.int 1)))) (wCons (wBin (dI0 fun i j => .int (i - j)) (wVar 8) (wBin (dI CMulX fun i j => .int (i * j)) (wBin (dI0 fun i j => .int (i - j)) (wVar 4) (wVar 6)) (wBin (dI0 fun i j => .int (i - j)) (wVar 2) (wC (.int 1))))) wNil)))) wNil))))
  (wRet (wVar 5))))))))
def FSQWaits : Fd := mkF (pin [0, 1]) 10 (fun _ => wSQWaits)
theorem queueWaits_ok {n x y d : Int} {Q : Rz → Sl → Prop} {Ξ : Xp} (n1 : 1 ≤ n) (n4 : n ≤ 4) (hx : x.natAbs ≤ 1000) (hy : y.natAbs ≤ 1000) (d0 : 0 ≤ d) (d1 : d ≤ 1000) (hF : 0 ≤ firstD n x y d ∧ firstD n x y d ≤ 10000) (h : Q (.own (.lst ((waitsL n x y d (firstD n x y d)).map .int))) [.dat (sv "queue" n), .dat (pr3 x y d)]) :
    FSQWaits [.dat (sv "queue" n), .dat (pr3 x y d)] Q Ξ := by
  unfold FSQWaits mkF
  refine ⟨pinnedD (xs := [sv "queue" n, pr3 x y d]), ?_⟩
  have z3 : (3 : Nat) ≤ sizeLine := sz (by decide)
  unfold wSQWaits
  refine seq_to (ρ' := [.dat (sv "queue" n), .dat (pr3 x y d), .dat (.int n), .emp, .emp, .emp, .emp, .emp, .emp, .emp]) (fun N hN => ?_) ?_
  · simp only [sv, wSeq, wNext, wIfS, wSetF, wSet, into, wSetIx, wRet, wRetN, wDrop, wB, wBin, wUn, wCB, wCons, wNil, wVar, wC, wIf, wAnd, wOr, DL.wNot, wAndV, wOrV, wNotV, wTup, wLst, wSl, wNoPart, wPart, wChain, wUnp, wgTup, wgCons, wgNil, wName, wIsi, wListRg, wRg1, wRg2, wTupRg, wPuts, puts, Rz.sd, wConsH, wAppend, wExtend, ownL, dI, dI0, dIx, dInt, dAbs, dLen, dMax2, dMin2, dSum, dSumX, dAll, dAny, dList, dTuple, dAdd, dNeg, dIsN, dNotN, PD.isN, dSl, look, looks, ok, Rz.pd, SD.pd, OD.pd, Rz.cold, Rz.cool, warm, pdsOf, frz, frzAll, leave, argOf, onceB, newBor, isBor, ty_non, ty_bl, ty_int, ty_str, ty_lst, ty_scr, ty_tup, ty_dct, isa, String.reduceBEq, jR, jS, jU, uD, jW, wYes, wCall, backS_0, backS_1, backS_2, backS_3, backS_4, backS_o0, backS_o1, backS_o2, backS_o3, dEq_int, dEq_str, dNeX_int, dNeX_str, jC, jD, jE, jF, List.replicate, Nat.reduceAdd, Nat.reduceSub, jA, jB, jG, jH, jI, jJ, jK, jL, jM, jP, jQ, true_or, or_true, true_and, and_true, jV, jT, jY, jZ, uC, uA, uB, decide_true, decide_false, wFor, wRng1, wRng2, wLc, wSeqI, items, wEnumX, wCallO, wNever, noOwn, jN, jO, wipeS, jX, uE, atI0a, atI0b, atI0c, atI1b, atI1c, atI2c, wZipX, seqP, wRaise, wIsE, wVal, wMk, wPopAt, wPop, wAug, wTr, dTr, dLtX, dDivmod, wPick, pick, List.filterMap_cons, List.filterMap_nil]
    exact hN
  refine seq_to (ρ' := [.dat (sv "queue" n), .dat (pr3 x y d), .dat (.int n), .emp, .emp, .emp, .emp, .dat (.int x), .dat (.int y), .dat (.int d)]) (fun N hN => ?_) ?_
  · simp only [pr3, z3, wSeq, wNext, wIfS, wSetF, wSet, into, wSetIx, wRet, wRetN, wDrop, wB, wBin, wUn, wCB, wCons, wNil, wVar, wC, wIf, wAnd, wOr, DL.wNot, wAndV, wOrV, wNotV, wTup, wLst, wSl, wNoPart, wPart, wChain, wUnp, wgTup, wgCons, wgNil, wName, wIsi, wListRg, wRg1, wRg2, wTupRg, wPuts, puts, Rz.sd, wConsH, wAppend, wExtend, ownL, dI, dI0, dIx, dInt, dAbs, dLen, dMax2, dMin2, dSum, dSumX, dAll, dAny, dList, dTuple, dAdd, dNeg, dIsN, dNotN, PD.isN, dSl, look, looks, ok, Rz.pd, SD.pd, OD.pd, Rz.cold, Rz.cool, warm, pdsOf, frz, frzAll, leave, argOf, onceB, newBor, isBor, ty_non, ty_bl, ty_int, ty_str, ty_lst, ty_scr, ty_tup, ty_dct, isa, String.reduceBEq, jR, jS, jU, uD, jW, wYes, wCall, backS_0, backS_1, backS_2, backS_3, backS_4, backS_o0, backS_o1, backS_o2, backS_o3, dEq_int, dEq_str, dNeX_int, dNeX_str, jC, jD, jE, jF, List.replicate, Nat.reduceAdd, Nat.reduceSub, jA, jB, jG, jH, jI, jJ, jK, jL, jM, jP, jQ, true_or, or_true, true_and, and_true, jV, jT, jY, jZ, uC, uA, uB, decide_true, decide_false, wFor, wRng1, wRng2, wLc, wSeqI, items, wEnumX, wCallO, wNever, noOwn, jN, jO, wipeS, jX, uE, atI0a, atI0b, atI0c, atI1b, atI1c, atI2c, wZipX, seqP, wRaise, wIsE, wVal, wMk, wPopAt, wPop, wAug, wTr, dTr, dLtX, dDivmod, wPick, pick, List.filterMap_cons, List.filterMap_nil]
    exact hN
  generalize hFe : firstD n x y d = F at hF h
  refine seq_to (ρ' := [.dat (sv "queue" n), .dat (pr3 x y d), .dat (.int n), .dat (.int F), .emp, .emp, .emp, .dat (.int x), .dat (.int y), .dat (.int d)]) (fun N hN => ?_) ?_
  · simp only [wSeq, wNext, wIfS, wSetF, wSet, into, wSetIx, wRet, wRetN, wDrop, wB, wBin, wUn, wCB, wCons, wNil, wVar, wC, wIf, wAnd, wOr, DL.wNot, wAndV, wOrV, wNotV, wTup, wLst, wSl, wNoPart, wPart, wChain, wUnp, wgTup, wgCons, wgNil, wName, wIsi, wListRg, wRg1, wRg2, wTupRg, wPuts, puts, Rz.sd, wConsH, wAppend, wExtend, ownL, dI, dI0, dIx, dInt, dAbs, dLen, dMax2, dMin2, dSum, dSumX, dAll, dAny, dList, dTuple, dAdd, dNeg, dIsN, dNotN, PD.isN, dSl, look, looks, ok, Rz.pd, SD.pd, OD.pd, Rz.cold, Rz.cool, warm, pdsOf, frz, frzAll, leave, argOf, onceB, newBor, isBor, ty_non, ty_bl, ty_int, ty_str, ty_lst, ty_scr, ty_tup, ty_dct, isa, String.reduceBEq, jR, jS, jU, uD, jW, wYes, wCall, backS_0, backS_1, backS_2, backS_3, backS_4, backS_o0, backS_o1, backS_o2, backS_o3, dEq_int, dEq_str, dNeX_int, dNeX_str, jC, jD, jE, jF, List.replicate, Nat.reduceAdd, Nat.reduceSub, jA, jB, jG, jH, jI, jJ, jK, jL, jM, jP, jQ, true_or, or_true, true_and, and_true, jV, jT, jY, jZ, uC, uA, uB, decide_true, decide_false, wFor, wRng1, wRng2, wLc, wSeqI, items, wEnumX, wCallO, wNever, noOwn, jN, jO, wipeS, jX, uE, atI0a, atI0b, atI0c, atI1b, atI1c, atI2c, wZipX, seqP, wRaise, wIsE, wVal, wMk, wPopAt, wPop, wAug, wTr, dTr, dLtX, dDivmod, wPick, pick, List.filterMap_cons, List.filterMap_nil]
    refine slotsD_ok n1 n4 (by omega) (by omega) (by omega) ?_
    rw [hFe]
    exact ⟨.inl rfl, hN⟩
  refine seq_to (ρ' := [.dat (sv "queue" n), .dat (pr3 x y d), .dat (.int n), .dat (.int F), .dat (.int (F + d + 1)), .emp, .emp, .dat (.int x), .dat (.int y), .dat (.int d)]) (fun N hN => ?_) ?_
  · simp only [wSeq, wNext, wIfS, wSetF, wSet, into, wSetIx, wRet, wRetN, wDrop, wB, wBin, wUn, wCB, wCons, wNil, wVar, wC, wIf, wAnd, wOr, DL.wNot, wAndV, wOrV, wNotV, wTup, wLst, wSl, wNoPart, wPart, wChain, wUnp, wgTup, wgCons, wgNil, wName, wIsi, wListRg, wRg1, wRg2, wTupRg, wPuts, puts, Rz.sd, wConsH, wAppend, wExtend, ownL, dI, dI0, dIx, dInt, dAbs, dLen, dMax2, dMin2, dSum, dSumX, dAll, dAny, dList, dTuple, dAdd, dNeg, dIsN, dNotN, PD.isN, dSl, look, looks, ok, Rz.pd, SD.pd, OD.pd, Rz.cold, Rz.cool, warm, pdsOf, frz, frzAll, leave, argOf, onceB, newBor, isBor, ty_non, ty_bl, ty_int, ty_str, ty_lst, ty_scr, ty_tup, ty_dct, isa, String.reduceBEq, jR, jS, jU, uD, jW, wYes, wCall, backS_0, backS_1, backS_2, backS_3, backS_4, backS_o0, backS_o1, backS_o2, backS_o3, dEq_int, dEq_str, dNeX_int, dNeX_str, jC, jD, jE, jF, List.replicate, Nat.reduceAdd, Nat.reduceSub, jA, jB, jG, jH, jI, jJ, jK, jL, jM, jP, jQ, true_or, or_true, true_and, and_true, jV, jT, jY, jZ, uC, uA, uB, decide_true, decide_false, wFor, wRng1, wRng2, wLc, wSeqI, items, wEnumX, wCallO, wNever, noOwn, jN, jO, wipeS, jX, uE, atI0a, atI0b, atI0c, atI1b, atI1c, atI2c, wZipX, seqP, wRaise, wIsE, wVal, wMk, wPopAt, wPop, wAug, wTr, dTr, dLtX, dDivmod, wPick, pick, List.filterMap_cons, List.filterMap_nil]
    exact hN
  have hb : ∀ a : Int, a.natAbs ≤ 100000 → (a * (n - 1)).natAbs ≤ 400000 := fun a ha => by
    have h4 : n = 1 ∨ n = 2 ∨ n = 3 ∨ n = 4 := by omega
    rcases h4 with rfl | rfl | rfl | rfl <;> omega
  refine seq_to (ρ' := [.dat (sv "queue" n), .dat (pr3 x y d), .dat (.int n), .dat (.int F), .dat (.int (F + d + 1)), .own (.lst (((List.range (F + 1).toNat).map (wA n x y d F)).map .int)), .emp, .dat (.int x), .dat (.int y), .dat (.int d)]) (fun N hN => ?_) ?_
  · simp only [wSeq, wNext, wIfS, wSetF, wSet, into, wSetIx, wRet, wRetN, wDrop, wB, wBin, wUn, wCB, wCons, wNil, wVar, wC, wIf, wAnd, wOr, DL.wNot, wAndV, wOrV, wNotV, wTup, wLst, wSl, wNoPart, wPart, wChain, wUnp, wgTup, wgCons, wgNil, wName, wIsi, wListRg, wRg1, wRg2, wTupRg, wPuts, puts, Rz.sd, wConsH, wAppend, wExtend, ownL, dI, dI0, dIx, dInt, dAbs, dLen, dMax2, dMin2, dSum, dSumX, dAll, dAny, dList, dTuple, dAdd, dNeg, dIsN, dNotN, PD.isN, dSl, look, looks, ok, Rz.pd, SD.pd, OD.pd, Rz.cold, Rz.cool, warm, pdsOf, frz, frzAll, leave, argOf, onceB, newBor, isBor, ty_non, ty_bl, ty_int, ty_str, ty_lst, ty_scr, ty_tup, ty_dct, isa, String.reduceBEq, jR, jS, jU, uD, jW, wYes, wCall, backS_0, backS_1, backS_2, backS_3, backS_4, backS_o0, backS_o1, backS_o2, backS_o3, dEq_int, dEq_str, dNeX_int, dNeX_str, jC, jD, jE, jF, List.replicate, Nat.reduceAdd, Nat.reduceSub, jA, jB, jG, jH, jI, jJ, jK, jL, jM, jP, jQ, true_or, or_true, true_and, and_true, jV, jT, jY, jZ, uC, uA, uB, decide_true, decide_false, wFor, wRng1, wRng2, wLc, wSeqI, items, wEnumX, wCallO, wNever, noOwn, jN, jO, wipeS, jX, uE, atI0a, atI0b, atI0c, atI1b, atI1c, atI2c, wZipX, seqP, wRaise, wIsE, wVal, wMk, wPopAt, wPop, wAug, wTr, dTr, dLtX, dDivmod, wPick, pick, List.filterMap_cons, List.filterMap_nil]
    refine ⟨⟨by omega, by omega⟩, ?_⟩
    have hlr : (rgP 0 (F + 1).toNat).length = (F + 1).toNat := by unfold rgP; rw [List.length_map, List.length_range]
    refine compL_same (g := fun e => match e with | .int a => .int (wA n x y d F a.toNat) | _ => .non) (by rw [hlr]; omega) (fun e he acc N hacc hN => ?_) ?_
    · unfold rgP at he
      obtain ⟨a, ha, rfl⟩ := List.mem_map.mp he
      have := List.mem_range.mp ha
      simp only [wSeq, wNext, wIfS, wSetF, wSet, into, wSetIx, wRet, wRetN, wDrop, wB, wBin, wUn, wCB, wCons, wNil, wVar, wC, wIf, wAnd, wOr, DL.wNot, wAndV, wOrV, wNotV, wTup, wLst, wSl, wNoPart, wPart, wChain, wUnp, wgTup, wgCons, wgNil, wName, wIsi, wListRg, wRg1, wRg2, wTupRg, wPuts, puts, Rz.sd, wConsH, wAppend, wExtend, ownL, dI, dI0, dIx, dInt, dAbs, dLen, dMax2, dMin2, dSum, dSumX, dAll, dAny, dList, dTuple, dAdd, dNeg, dIsN, dNotN, PD.isN, dSl, look, looks, ok, Rz.pd, SD.pd, OD.pd, Rz.cold, Rz.cool, warm, pdsOf, frz, frzAll, leave, argOf, onceB, newBor, isBor, ty_non, ty_bl, ty_int, ty_str, ty_lst, ty_scr, ty_tup, ty_dct, isa, String.reduceBEq, jR, jS, jU, uD, jW, wYes, wCall, backS_0, backS_1, backS_2, backS_3, backS_4, backS_o0, backS_o1, backS_o2, backS_o3, dEq_int, dEq_str, dNeX_int, dNeX_str, jC, jD, jE, jF, List.replicate, Nat.reduceAdd, Nat.reduceSub, jA, jB, jG, jH, jI, jJ, jK, jL, jM, jP, jQ, true_or, or_true, true_and, and_true, jV, jT, jY, jZ, uC, uA, uB, decide_true, decide_false, wFor, wRng1, wRng2, wLc, wSeqI, items, wEnumX, wCallO, wNever, noOwn, jN, jO, wipeS, jX, uE, atI0a, atI0b, atI0c, atI1b, atI1c, atI2c, wZipX, seqP, wRaise, wIsE, wVal, wMk, wPopAt, wPop, wAug, wTr, dTr, dLtX, dDivmod, wPick, pick, List.filterMap_cons, List.filterMap_nil]
      refine waitsFirst_ok n1 n4 (by omega) ?_
      have e0 : (0 + (a : Int)).toNat = a := by omega
      simp only [e0, wA] at hN
      simp only [Int.zero_add, wSeq, wNext, wIfS, wSetF, wSet, into, wSetIx, wRet, wRetN, wDrop, wB, wBin, wUn, wCB, wCons, wNil, wVar, wC, wIf, wAnd, wOr, DL.wNot, wAndV, wOrV, wNotV, wTup, wLst, wSl, wNoPart, wPart, wChain, wUnp, wgTup, wgCons, wgNil, wName, wIsi, wListRg, wRg1, wRg2, wTupRg, wPuts, puts, Rz.sd, wConsH, wAppend, wExtend, ownL, dI, dI0, dIx, dInt, dAbs, dLen, dMax2, dMin2, dSum, dSumX, dAll, dAny, dList, dTuple, dAdd, dNeg, dIsN, dNotN, PD.isN, dSl, look, looks, ok, Rz.pd, SD.pd, OD.pd, Rz.cold, Rz.cool, warm, pdsOf, frz, frzAll, leave, argOf, onceB, newBor, isBor, ty_non, ty_bl, ty_int, ty_str, ty_lst, ty_scr, ty_tup, ty_dct, isa, String.reduceBEq, jR, jS, jU, uD, jW, wYes, wCall, backS_0, backS_1, backS_2, backS_3, backS_4, backS_o0, backS_o1, backS_o2, backS_o3, dEq_int, dEq_str, dNeX_int, dNeX_str, jC, jD, jE, jF, List.replicate, Nat.reduceAdd, Nat.reduceSub, jA, jB, jG, jH, jI, jJ, jK, jL, jM, jP, jQ, true_or, or_true, true_and, and_true, jV, jT, jY, jZ, uC, uA, uB, decide_true, decide_false, wFor, wRng1, wRng2, wLc, wSeqI, items, wEnumX, wCallO, wNever, noOwn, jN, jO, wipeS, jX, uE, atI0a, atI0b, atI0c, atI1b, atI1c, atI2c, wZipX, seqP, wRaise, wIsE, wVal, wMk, wPopAt, wPop, wAug, wTr, dTr, dLtX, dDivmod, wPick, pick, List.filterMap_cons, List.filterMap_nil]
      exact ⟨mulX (sm_big (by omega)) (sm_big (by omega)), hacc, hN⟩
    · have e : (rgP 0 (F + 1).toNat).map (fun e => match e with | .int a => PD.int (wA n x y d F a.toNat) | _ => .non) = ((List.range (F + 1).toNat).map (wA n x y d F)).map .int := by
        unfold rgP
        rw [List.map_map, List.map_map]
        refine List.map_congr_left fun a ha => ?_
        show PD.int (wA n x y d F (0 + (a : Int)).toNat) = PD.int (wA n x y d F a)
        have e0 : (0 + (a : Int)).toNat = a := by omega
        rw [e0]
      rw [e]
      simp only [restore, wSeq, wNext, wIfS, wSetF, wSet, into, wSetIx, wRet, wRetN, wDrop, wB, wBin, wUn, wCB, wCons, wNil, wVar, wC, wIf, wAnd, wOr, DL.wNot, wAndV, wOrV, wNotV, wTup, wLst, wSl, wNoPart, wPart, wChain, wUnp, wgTup, wgCons, wgNil, wName, wIsi, wListRg, wRg1, wRg2, wTupRg, wPuts, puts, Rz.sd, wConsH, wAppend, wExtend, ownL, dI, dI0, dIx, dInt, dAbs, dLen, dMax2, dMin2, dSum, dSumX, dAll, dAny, dList, dTuple, dAdd, dNeg, dIsN, dNotN, PD.isN, dSl, look, looks, ok, Rz.pd, SD.pd, OD.pd, Rz.cold, Rz.cool, warm, pdsOf, frz, frzAll, leave, argOf, onceB, newBor, isBor, ty_non, ty_bl, ty_int, ty_str, ty_lst, ty_scr, ty_tup, ty_dct, isa, String.reduceBEq, jR, jS, jU, uD, jW, wYes, wCall, backS_0, backS_1, backS_2, backS_3, backS_4, backS_o0, backS_o1, backS_o2, backS_o3, dEq_int, dEq_str, dNeX_int, dNeX_str, jC, jD, jE, jF, List.replicate, Nat.reduceAdd, Nat.reduceSub, jA, jB, jG, jH, jI, jJ, jK, jL, jM, jP, jQ, true_or, or_true, true_and, and_true, jV, jT, jY, jZ, uC, uA, uB, decide_true, decide_false, wFor, wRng1, wRng2, wLc, wSeqI, items, wEnumX, wCallO, wNever, noOwn, jN, jO, wipeS, jX, uE, atI0a, atI0b, atI0c, atI1b, atI1c, atI2c, wZipX, seqP, wRaise, wIsE, wVal, wMk, wPopAt, wPop, wAug, wTr, dTr, dLtX, dDivmod, wPick, pick, List.filterMap_cons, List.filterMap_nil]
      exact hN
  have hAl : ((List.range (F + 1).toNat).map (wA n x y d F)).length ≤ 10001 := by rw [List.length_map, List.length_range]; omega
  unfold waitsL at h
  generalize (List.range (F + 1).toNat).map (wA n x y d F) = A at hAl h ⊢
  refine seq_by (fun ρ => ∃ s6, ρ = [.dat (sv "queue" n), .dat (pr3 x y d), .dat (.int n), .dat (.int F), .dat (.int (F + d + 1)), .own (.lst ((A ++ (List.range (d + 1).toNat).map (wB3 n x y d)).map .int)), s6, .dat (.int x), .dat (.int y), .dat (.int d)]) (fun N hN => ?_) (fun ρ hρ => ?_)
  · simp only [wSeq, wNext, wIfS, wSetF, wSet, into, wSetIx, wRet, wRetN, wDrop, wB, wBin, wUn, wCB, wCons, wNil, wVar, wC, wIf, wAnd, wOr, DL.wNot, wAndV, wOrV, wNotV, wTup, wLst, wSl, wNoPart, wPart, wChain, wUnp, wgTup, wgCons, wgNil, wName, wIsi, wListRg, wRg1, wRg2, wTupRg, wPuts, puts, Rz.sd, wConsH, wAppend, wExtend, ownL, dI, dI0, dIx, dInt, dAbs, dLen, dMax2, dMin2, dSum, dSumX, dAll, dAny, dList, dTuple, dAdd, dNeg, dIsN, dNotN, PD.isN, dSl, look, looks, ok, Rz.pd, SD.pd, OD.pd, Rz.cold, Rz.cool, warm, pdsOf, frz, frzAll, leave, argOf, onceB, newBor, isBor, ty_non, ty_bl, ty_int, ty_str, ty_lst, ty_scr, ty_tup, ty_dct, isa, String.reduceBEq, jR, jS, jU, uD, jW, wYes, wCall, backS_0, backS_1, backS_2, backS_3, backS_4, backS_o0, backS_o1, backS_o2, backS_o3, dEq_int, dEq_str, dNeX_int, dNeX_str, jC, jD, jE, jF, List.replicate, Nat.reduceAdd, Nat.reduceSub, jA, jB, jG, jH, jI, jJ, jK, jL, jM, jP, jQ, true_or, or_true, true_and, and_true, jV, jT, jY, jZ, uC, uA, uB, decide_true, decide_false, wFor, wRng1, wRng2, wLc, wSeqI, items, wEnumX, wCallO, wNever, noOwn, jN, jO, wipeS, jX, uE, atI0a, atI0b, atI0c, atI1b, atI1c, atI2c, wZipX, seqP, wRaise, wIsE, wVal, wMk, wPopAt, wPop, wAug, wTr, dTr, dLtX, dDivmod, wPick, pick, List.filterMap_cons, List.filterMap_nil]
    refine ⟨⟨by omega, by omega, by omega, by omega⟩, ?_⟩
    have em : (F + d + 1 + 1 - (F + 1)).toNat = (d + 1).toNat := by omega
    rw [em]
    generalize hm : (d + 1).toNat = m at hN ⊢
    have hlr : (rgP (F + 1) m).length = m := by unfold rgP; rw [List.length_map, List.length_range]
    refine forL_upto (fun k ρ => ∃ s6, ρ = [.dat (sv "queue" n), .dat (pr3 x y d), .dat (.int n), .dat (.int F), .dat (.int (F + d + 1)), .own (.lst ((A ++ (List.range k).map (wB3 n x y d)).map .int)), s6, .dat (.int x), .dat (.int y), .dat (.int d)]) _ 0 _ ⟨.emp, by rw [List.range_zero, List.map_nil, List.append_nil]⟩ (fun j e ρ N2 hj hI hN2 => ?_) (fun ρ hI => ?_)
    · obtain ⟨s6, rfl⟩ := hI
      rw [Nat.zero_add] at hN2 ⊢
      have hjl := (List.getElem?_eq_some_iff.mp hj).1
      rw [hlr] at hjl
      unfold rgP at hj
      rw [List.getElem?_map, List.getElem?_range hjl] at hj
      have hj : PD.int (F + 1 + (j : Int)) = e := Option.some.inj hj
      subst hj
      simp only [wSeq, wNext, wIfS, wSetF, wSet, into, wSetIx, wRet, wRetN, wDrop, wB, wBin, wUn, wCB, wCons, wNil, wVar, wC, wIf, wAnd, wOr, DL.wNot, wAndV, wOrV, wNotV, wTup, wLst, wSl, wNoPart, wPart, wChain, wUnp, wgTup, wgCons, wgNil, wName, wIsi, wListRg, wRg1, wRg2, wTupRg, wPuts, puts, Rz.sd, wConsH, wAppend, wExtend, ownL, dI, dI0, dIx, dInt, dAbs, dLen, dMax2, dMin2, dSum, dSumX, dAll, dAny, dList, dTuple, dAdd, dNeg, dIsN, dNotN, PD.isN, dSl, look, looks, ok, Rz.pd, SD.pd, OD.pd, Rz.cold, Rz.cool, warm, pdsOf, frz, frzAll, leave, argOf, onceB, newBor, isBor, ty_non, ty_bl, ty_int, ty_str, ty_lst, ty_scr, ty_tup, ty_dct, isa, String.reduceBEq, jR, jS, jU, uD, jW, wYes, wCall, backS_0, backS_1, backS_2, backS_3, backS_4, backS_o0, backS_o1, backS_o2, backS_o3, dEq_int, dEq_str, dNeX_int, dNeX_str, jC, jD, jE, jF, List.replicate, Nat.reduceAdd, Nat.reduceSub, jA, jB, jG, jH, jI, jJ, jK, jL, jM, jP, jQ, true_or, or_true, true_and, and_true, jV, jT, jY, jZ, uC, uA, uB, decide_true, decide_false, wFor, wRng1, wRng2, wLc, wSeqI, items, wEnumX, wCallO, wNever, noOwn, jN, jO, wipeS, jX, uE, atI0a, atI0b, atI0c, atI1b, atI1c, atI2c, wZipX, seqP, wRaise, wIsE, wVal, wMk, wPopAt, wPop, wAug, wTr, dTr, dLtX, dDivmod, wPick, pick, List.filterMap_cons, List.filterMap_nil]
      have e1 : x - (F + 1 + (j : Int) - F - 1) = x - (j : Int) := by omega
      have e2 : F + d + 1 - (F + 1 + (j : Int)) = d - (j : Int) := by omega
      rw [e1, e2]
      refine ⟨mulX (sm_big (by omega)) (sm_big (by omega)), dMax3_ok ?_⟩
      have e3 : mx3 0 (x - (j : Int)) (y - (d - (j : Int)) * (n - 1)) = wB3 n x y d j := rfl
      rw [e3]
      simp only [wSeq, wNext, wIfS, wSetF, wSet, into, wSetIx, wRet, wRetN, wDrop, wB, wBin, wUn, wCB, wCons, wNil, wVar, wC, wIf, wAnd, wOr, DL.wNot, wAndV, wOrV, wNotV, wTup, wLst, wSl, wNoPart, wPart, wChain, wUnp, wgTup, wgCons, wgNil, wName, wIsi, wListRg, wRg1, wRg2, wTupRg, wPuts, puts, Rz.sd, wConsH, wAppend, wExtend, ownL, dI, dI0, dIx, dInt, dAbs, dLen, dMax2, dMin2, dSum, dSumX, dAll, dAny, dList, dTuple, dAdd, dNeg, dIsN, dNotN, PD.isN, dSl, look, looks, ok, Rz.pd, SD.pd, OD.pd, Rz.cold, Rz.cool, warm, pdsOf, frz, frzAll, leave, argOf, onceB, newBor, isBor, ty_non, ty_bl, ty_int, ty_str, ty_lst, ty_scr, ty_tup, ty_dct, isa, String.reduceBEq, jR, jS, jU, uD, jW, wYes, wCall, backS_0, backS_1, backS_2, backS_3, backS_4, backS_o0, backS_o1, backS_o2, backS_o3, dEq_int, dEq_str, dNeX_int, dNeX_str, jC, jD, jE, jF, List.replicate, Nat.reduceAdd, Nat.reduceSub, jA, jB, jG, jH, jI, jJ, jK, jL, jM, jP, jQ, true_or, or_true, true_and, and_true, jV, jT, jY, jZ, uC, uA, uB, decide_true, decide_false, wFor, wRng1, wRng2, wLc, wSeqI, items, wEnumX, wCallO, wNever, noOwn, jN, jO, wipeS, jX, uE, atI0a, atI0b, atI0c, atI1b, atI1c, atI2c, wZipX, seqP, wRaise, wIsE, wVal, wMk, wPopAt, wPop, wAug, wTr, dTr, dLtX, dDivmod, wPick, pick, List.filterMap_cons, List.filterMap_nil]
      have e4 : (A ++ (List.range (j + 1)).map (wB3 n x y d)).map PD.int = (A ++ (List.range j).map (wB3 n x y d)).map PD.int ++ [.int (wB3 n x y d j)] := by
        simp only [List.range_succ, List.map_append, List.map_cons, List.map_nil, List.append_assoc]
      rw [← e4]
      exact ⟨sz' (by rw [List.length_map, List.length_append, List.length_map, List.length_range]; omega), hN2 _ ⟨_, rfl⟩⟩
    · obtain ⟨s6, rfl⟩ := hI
      rw [hlr, Nat.zero_add]
      exact hN _ ⟨_, rfl⟩
  · obtain ⟨s6, rfl⟩ := hρ
    simp only [wSeq, wNext, wIfS, wSetF, wSet, into, wSetIx, wRet, wRetN, wDrop, wB, wBin, wUn, wCB, wCons, wNil, wVar, wC, wIf, wAnd, wOr, DL.wNot, wAndV, wOrV, wNotV, wTup, wLst, wSl, wNoPart, wPart, wChain, wUnp, wgTup, wgCons, wgNil, wName, wIsi, wListRg, wRg1, wRg2, wTupRg, wPuts, puts, Rz.sd, wConsH, wAppend, wExtend, ownL, dI, dI0, dIx, dInt, dAbs, dLen, dMax2, dMin2, dSum, dSumX, dAll, dAny, dList, dTuple, dAdd, dNeg, dIsN, dNotN, PD.isN, dSl, look, looks, ok, Rz.pd, SD.pd, OD.pd, Rz.cold, Rz.cool, warm, pdsOf, frz, frzAll, leave, argOf, onceB, newBor, isBor, ty_non, ty_bl, ty_int, ty_str, ty_lst, ty_scr, ty_tup, ty_dct, isa, String.reduceBEq, jR, jS, jU, uD, jW, wYes, wCall, backS_0, backS_1, backS_2, backS_3, backS_4, backS_o0, backS_o1, backS_o2, backS_o3, dEq_int, dEq_str, dNeX_int, dNeX_str, jC, jD, jE, jF, List.replicate, Nat.reduceAdd, Nat.reduceSub, jA, jB, jG, jH, jI, jJ, jK, jL, jM, jP, jQ, true_or, or_true, true_and, and_true, jV, jT, jY, jZ, uC, uA, uB, decide_true, decide_false, wFor, wRng1, wRng2, wLc, wSeqI, items, wEnumX, wCallO, wNever, noOwn, jN, jO, wipeS, jX, uE, atI0a, atI0b, atI0c, atI1b, atI1c, atI2c, wZipX, seqP, wRaise, wIsE, wVal, wMk, wPopAt, wPop, wAug, wTr, dTr, dLtX, dDivmod, wPick, pick, List.filterMap_cons, List.filterMap_nil]
    exact ⟨fun z => absurd z (by decide), h⟩
end DL

set_option Elab.async false
set_option linter.all false
set_option maxRecDepth 100000
set_option maxHeartbeats 4000000
set_option exponentiation.threshold 3000
namespace DL
open PySem L2
/-! ### counts of which so many wait -/
def cOf (wt : Nat → Int) (t : Nat) : Int := wt (t + 1) - wt t + 1
theorem next_wt {wt : Nat → Int} {s : Nat} (h : 0 ≤ wt (s + 1)) : nextL (wt s) (cOf wt s) = wt (s + 1) := by
  unfold nextL cOf; rw [if_neg (by omega)]; omega
theorem fit_wt {n size : Int} {wt : Nat → Int} : ∀ (m s : Nat), (∀ t, s ≤ t → t < s + m → 0 ≤ wt (t + 1) ∧ wt (t + 1) ≤ size ∧ 0 ≤ cOf wt t ∧ cOf wt t ≤ n) → FitQ n size ((List.range' s m).map (cOf wt)) (wt s)
  | 0, _, _ => trivial
  | m + 1, s, h => by
    obtain ⟨a, b, c, d⟩ := h s (Nat.le_refl _) (by omega)
    rw [List.range'_succ, List.map_cons, FitQ, next_wt a]
    exact ⟨⟨c, d, by unfold cOf; omega⟩, fit_wt m (s + 1) fun t h1 h2 => h t (by omega) (by omega)⟩
theorem sum_nn : ∀ l : List Int, (∀ x ∈ l, 0 ≤ x) → 0 ≤ l.sum
  | [], _ => Int.le_refl _
  | x :: l, hx => by
    have h1 := hx x List.mem_cons_self
    have h2 := sum_nn l fun y hy => hx y (List.mem_cons_of_mem _ hy)
    rw [List.sum_cons]; omega
theorem pk_at {wt : Nat → Int} : ∀ (k m s : Nat) (i : Int), k < m → (∀ t, s ≤ t → t < s + m → 0 ≤ wt (t + 1) ∧ 0 ≤ cOf wt t) → ∀ j : Nat, (j : Int) < cOf wt (s + k) → (pkR (rowsI ((List.range' s m).map (cOf wt)) (wt s)) i)[(((List.range' s k).map (cOf wt)).sum).toNat + j]? = some (i + (k : Int), wt (s + k) + (j : Int))
  | 0, m + 1, s, i, _, h, j, hj => by
    rw [List.range'_succ, List.map_cons, rowsI, pkR]
    rw [Nat.add_zero] at hj ⊢
    have hl : j < (cOf wt s).toNat := by omega
    show (_ ++ _)[(0 : Int).toNat + j]? = _
    rw [List.getElem?_append_left (by rw [List.length_map, List.length_map, List.length_range]; show 0 + j < _; omega)]
    have e0 : (0 : Int).toNat + j = j := by show 0 + j = j; omega
    rw [e0, List.map_map, List.getElem?_map, List.getElem?_range hl]
    show some (i, wt s + (j : Int)) = some (i + ((0 : Nat) : Int), wt s + (j : Int))
    rw [Int.natCast_zero, Int.add_zero]
  | k + 1, m + 1, s, i, hk, h, j, hj => by
    obtain ⟨a, c⟩ := h s (Nat.le_refl _) (by omega)
    have hs : s + (k + 1) = s + 1 + k := by omega
    have ih := pk_at k m (s + 1) (i + 1) (by omega) (fun t h1 h2 => h t (by omega) (by omega)) j (by rw [← hs]; exact hj)
    have nn : 0 ≤ ((List.range' (s + 1) k).map (cOf wt)).sum := by
      refine sum_nn _ fun x hx => ?_
      obtain ⟨t, ht, rfl⟩ := List.mem_map.mp hx
      have := List.mem_range'_1.mp ht
      exact (h t (by omega) (by omega)).2
    rw [List.range'_succ, List.map_cons, rowsI, pkR, next_wt a]
    rw [List.range'_succ, List.map_cons, List.sum_cons]
    have el : ((((List.range (cOf wt s).toNat).map fun (k : Nat) => wt s + (k : Int))).map fun d => (i, d)).length = (cOf wt s).toNat := by rw [List.length_map, List.length_map, List.length_range]
    rw [List.getElem?_append_right (by rw [el]; omega), el]
    have e1 : (cOf wt s + ((List.range' (s + 1) k).map (cOf wt)).sum).toNat + j - (cOf wt s).toNat = (((List.range' (s + 1) k).map (cOf wt)).sum).toNat + j := by omega
    rw [e1, ih, hs]
    have e2 : i + 1 + (k : Int) = i + ((k + 1 : Nat) : Int) := by omega
    rw [e2]
end DL

set_option Elab.async false
set_option linter.all false
set_option maxRecDepth 100000
set_option maxHeartbeats 4000000
set_option exponentiation.threshold 3000
namespace DL
open PySem L2
/-! ### the waits of a pair's script -/
def wtQ (n x y d : Int) (F : Nat) (t : Nat) : Int := if t ≤ F then wA n x y d (F : Int) t else wB3 n x y d (t - (F + 1))
/-- a pair that a queue can hold -/
structure PairQ (n size x y d : Int) : Prop where
  n1 : 1 ≤ n
  x0 : 0 ≤ x
  y0 : 0 ≤ y
  xs : x ≤ size
  ys : y ≤ size
  d0 : 0 ≤ d
  g1 : 1 ≤ d + y - x
  g2 : d + y - x ≤ n * d + n - 1
  one : n = 1 → x = 0 ∧ y = 0
theorem mul_split (n d : Int) : (d + 1) * (n - 1) = n * d + n - d - 1 := by
  rw [Int.add_mul, Int.mul_sub, Int.one_mul, Int.mul_one, Int.mul_comm d n]; omega
theorem waits_le {n size x y d : Int} (h : PairQ n size x y d) : 0 ≤ waitsQ n x y d ∧ waitsQ n x y d ≤ x ∧ x ≤ waitsQ n x y d + n - 1 ∧ waitsQ n x y d ≤ y + 0 ∨ 0 < d ∧ 0 ≤ waitsQ n x y d ∧ waitsQ n x y d ≤ x ∧ x ≤ waitsQ n x y d + n - 1 := by
  obtain ⟨n1, x0, y0, xs, ys, d0, g1, g2, one⟩ := h
  have e := mul_split n d
  have m1 := mx3_ge 0 (x - (n - 1)) (y - (d + 1) * (n - 1))
  have m2 := mx3_or 0 (x - (n - 1)) (y - (d + 1) * (n - 1))
  unfold waitsQ
  rw [e] at m1 m2 ⊢
  generalize mx3 0 (x - (n - 1)) (y - (n * d + n - d - 1)) = W at *
  rcases Int.lt_or_le 0 d with hd | hd
  · right; omega
  · left
    have : d = 0 := by omega
    subst this
    rw [Int.mul_zero] at *
    omega
theorem first_ok {n size x y d : Int} (h : PairQ n size x y d) : 0 ≤ firstD n x y d ∧ waitsQ n x y d ≤ firstD n x y d * (n - 1) ∧ firstD n x y d ≤ x := by
  have hw := waits_le h
  obtain ⟨n1, x0, y0, xs, ys, d0, g1, g2, one⟩ := h
  unfold firstD
  by_cases c : n = 1
  · rw [if_pos c]
    obtain ⟨rfl, rfl⟩ := one c
    subst c
    omega
  · rw [if_neg c]
    unfold firstQ
    have W0 : 0 ≤ waitsQ n x y d ∧ waitsQ n x y d ≤ x := by omega
    generalize waitsQ n x y d = W at W0 ⊢
    have n2 : 0 < n - 1 := by omega
    have e1 := Int.mul_ediv_add_emod (W + n - 2) (n - 1)
    have e2 := Int.emod_nonneg (W + n - 2) (by omega : n - 1 ≠ 0)
    have e3 := Int.emod_lt_of_pos (W + n - 2) n2
    rw [Int.mul_comm] at e1
    refine ⟨Int.ediv_nonneg (by omega) (by omega), by omega, ?_⟩
    refine Int.le_of_lt_add_one (Int.ediv_lt_of_lt_mul n2 ?_)
    have := Int.mul_le_mul_of_nonneg_left (by omega : (1 : Int) ≤ n - 1) (by omega : 0 ≤ x)
    rw [Int.add_mul, Int.one_mul]
    omega
theorem wt_zero {n size x y d : Int} (h : PairQ n size x y d) : wtQ n x y d (firstD n x y d).toNat 0 = 0 := by
  obtain ⟨f0, f1, _⟩ := first_ok h
  unfold wtQ wA
  rw [if_pos (Nat.zero_le _), Int.toNat_of_nonneg f0, Int.natCast_zero, Int.sub_zero, if_neg (by omega)]
theorem wt_step {n size x y d : Int} {F : Nat} (h : PairQ n size x y d) (t : Nat) (ht : (t : Int) < (F : Int) + d + 1) : 0 ≤ wtQ n x y d F (t + 1) ∧ wtQ n x y d F (t + 1) ≤ size ∧ 0 ≤ cOf (wtQ n x y d F) t ∧ cOf (wtQ n x y d F) t ≤ n := by
  have hw := waits_le h
  obtain ⟨n1, x0, y0, xs, ys, d0, g1, g2, one⟩ := h
  unfold cOf wtQ
  by_cases c1 : t + 1 ≤ F
  · rw [if_pos c1, if_pos (by omega)]
    unfold wA
    have e : ((F : Int) - ((t + 1 : Nat) : Int)) * (n - 1) = ((F : Int) - (t : Int)) * (n - 1) - (n - 1) := by
      have : ((F : Int) - ((t + 1 : Nat) : Int)) = (F : Int) - (t : Int) - 1 := by omega
      rw [this, Int.sub_mul, Int.one_mul]
    have p := Int.mul_nonneg (by omega : 0 ≤ (F : Int) - ((t + 1 : Nat) : Int)) (by omega : 0 ≤ n - 1)
    rw [e] at p ⊢
    generalize ((F : Int) - (t : Int)) * (n - 1) = P at *
    generalize waitsQ n x y d = W at *
    split <;> split <;> omega
  · rw [if_neg c1]
    by_cases c2 : t ≤ F
    · have : t = F := by omega
      subst this
      rw [if_pos c2]
      have e0 : t + 1 - (t + 1) = 0 := by omega
      rw [e0]
      unfold wA wB3
      rw [Int.sub_self, Int.zero_mul, Int.sub_zero, Int.natCast_zero, Int.sub_zero, Int.sub_zero]
      have e : (d + 1) * (n - 1) = d * (n - 1) + (n - 1) := by rw [Int.add_mul, Int.one_mul]
      have p := Int.mul_nonneg d0 (by omega : 0 ≤ n - 1)
      have m1 := mx3_ge 0 (x - (n - 1)) (y - (d + 1) * (n - 1))
      have m2 := mx3_or 0 (x - (n - 1)) (y - (d + 1) * (n - 1))
      have m3 := mx3_ge 0 x (y - d * (n - 1))
      have m4 := mx3_or 0 x (y - d * (n - 1))
      unfold waitsQ at *
      rw [e] at *
      generalize mx3 0 (x - (n - 1)) (y - (d * (n - 1) + (n - 1))) = W at *
      generalize mx3 0 x (y - d * (n - 1)) = V at *
      generalize d * (n - 1) = P at *
      split <;> omega
    · rw [if_neg c2]
      obtain ⟨j, hj⟩ : ∃ j, t = F + 1 + j := ⟨t - (F + 1), by omega⟩
      subst hj
      have e1 : F + 1 + j + 1 - (F + 1) = j + 1 := by omega
      have e2 : F + 1 + j - (F + 1) = j := by omega
      rw [e1, e2]
      unfold wB3
      have e3 : (d - ((j + 1 : Nat) : Int)) * (n - 1) = (d - (j : Int)) * (n - 1) - (n - 1) := by
        have : (d - ((j + 1 : Nat) : Int)) = d - (j : Int) - 1 := by omega
        rw [this, Int.sub_mul, Int.one_mul]
      have p := Int.mul_nonneg (by omega : 0 ≤ d - ((j + 1 : Nat) : Int)) (by omega : 0 ≤ n - 1)
      have m1 := mx3_ge 0 (x - (j : Int)) (y - (d - (j : Int)) * (n - 1))
      have m2 := mx3_or 0 (x - (j : Int)) (y - (d - (j : Int)) * (n - 1))
      have m3 := mx3_ge 0 (x - ((j + 1 : Nat) : Int)) (y - (d - ((j + 1 : Nat) : Int)) * (n - 1))
      have m4 := mx3_or 0 (x - ((j + 1 : Nat) : Int)) (y - (d - ((j + 1 : Nat) : Int)) * (n - 1))
      rw [e3] at *
      generalize mx3 0 (x - (j : Int)) (y - (d - (j : Int)) * (n - 1)) = U at *
      generalize mx3 0 (x - ((j + 1 : Nat) : Int)) (y - ((d - (j : Int)) * (n - 1) - (n - 1))) = V at *
      generalize (d - (j : Int)) * (n - 1) = P at *
      omega
end DL

set_option Elab.async false
set_option linter.all false
set_option maxRecDepth 100000
set_option maxHeartbeats 4000000
set_option exponentiation.threshold 3000
namespace DL
open PySem L2
/-! ### a pair's script shows it -/
theorem wt_first {n size x y d : Int} {F : Nat} (h : PairQ n size x y d) : wtQ n x y d F F = waitsQ n x y d := by
  have hw := waits_le h
  unfold wtQ wA
  rw [if_pos (Nat.le_refl _), Int.sub_self, Int.zero_mul, Int.sub_zero]
  split <;> omega
theorem wt_next {n x y d : Int} {F : Nat} (j : Nat) : wtQ n x y d F (F + 1 + j) = wB3 n x y d j := by
  unfold wtQ
  have e : F + 1 + j - (F + 1) = j := by omega
  rw [if_neg (by omega), e]
theorem at_first {n size x y d : Int} {F : Nat} (h : PairQ n size x y d) : wtQ n x y d F F ≤ x ∧ x - wtQ n x y d F F < cOf (wtQ n x y d F) F := by
  have hw := waits_le h
  have e := wt_next (n := n) (x := x) (y := y) (d := d) (F := F) 0
  rw [Nat.add_zero] at e
  unfold cOf
  rw [e, wt_first h]
  unfold wB3
  rw [Int.natCast_zero, Int.sub_zero]
  have m := mx3_ge 0 x (y - (d - 0) * (n - 1))
  generalize mx3 0 x (y - (d - 0) * (n - 1)) = V at *
  omega
theorem at_second {n size x y d : Int} {F e : Nat} (h : PairQ n size x y d) (he : (e : Int) = d) : wtQ n x y d F (F + e) ≤ y ∧ y - wtQ n x y d F (F + e) < cOf (wtQ n x y d F) (F + e) := by
  have hw := waits_le h
  have e1 := wt_next (n := n) (x := x) (y := y) (d := d) (F := F) e
  have ee : F + e + 1 = F + 1 + e := by omega
  unfold cOf
  rw [ee, e1]
  have l1 : y ≤ wB3 n x y d e := by
    unfold wB3
    rw [he, Int.sub_self, Int.zero_mul, Int.sub_zero]
    exact (mx3_ge 0 (x - d) y).2.2
  obtain ⟨n1, x0, y0, xs, ys, d0, g1, g2, one⟩ := h
  have l2 : wtQ n x y d F (F + e) ≤ y := by
    rcases Nat.eq_zero_or_pos e with z | z
    · subst z
      have := wt_first (F := F) ⟨n1, x0, y0, xs, ys, d0, g1, g2, one⟩
      rw [Nat.add_zero, this]
      omega
    · obtain ⟨j, rfl⟩ : ∃ j, e = 1 + j := ⟨e - 1, by omega⟩
      have e3 : F + (1 + j) = F + 1 + j := by omega
      rw [e3, wt_next]
      unfold wB3
      have e4 : d - (j : Int) = 1 := by omega
      rw [e4, Int.one_mul]
      have m := mx3_or 0 (x - (j : Int)) (y - (n - 1))
      generalize mx3 0 (x - (j : Int)) (y - (n - 1)) = V at *
      omega
  omega
/-- the counts -/
def cntQ (n x y d : Int) (F e : Nat) : List Int := (List.range' 0 (F + e + 1)).map (cOf (wtQ n x y d F))
def oneQ (n x y d : Int) (F : Nat) (k : Nat) (v : Int) : Int := ((List.range' 0 k).map (cOf (wtQ n x y d F))).sum + v - wtQ n x y d F k
structure Shown (n size x y d : Int) (F e : Nat) : Prop where
  fit : FitQ n size (cntQ n x y d F e) 0
  one : 0 ≤ oneQ n x y d F F x ∧ (pkR (rowsI (cntQ n x y d F e) 0) 0)[(oneQ n x y d F F x).toNat]? = some ((F : Int), x)
  other : 0 ≤ oneQ n x y d F (F + e) y ∧ (pkR (rowsI (cntQ n x y d F e) 0) 0)[(oneQ n x y d F (F + e) y).toNat]? = some ((F : Int) + d, y)
  less : oneQ n x y d F F x < oneQ n x y d F (F + e) y
theorem shown_ok {n size x y d : Int} {F e : Nat} (h : PairQ n size x y d) (hF : (F : Int) = firstD n x y d) (he : (e : Int) = d) : Shown n size x y d F e := by
  have hst : ∀ t, 0 ≤ t → t < 0 + (F + e + 1) → 0 ≤ wtQ n x y d F (t + 1) ∧ wtQ n x y d F (t + 1) ≤ size ∧ 0 ≤ cOf (wtQ n x y d F) t ∧ cOf (wtQ n x y d F) t ≤ n := fun t _ h2 => wt_step h t (by omega)
  have h0 : wtQ n x y d F 0 = 0 := by
    have := wt_zero h
    rw [← hF, Int.toNat_natCast] at this
    exact this
  have fit : FitQ n size (cntQ n x y d F e) 0 := by
    have := fit_wt (n := n) (size := size) (wt := wtQ n x y d F) (F + e + 1) 0 hst
    rw [h0] at this
    exact this
  have look : ∀ (k : Nat) (v : Int), k < F + e + 1 → wtQ n x y d F k ≤ v → v - wtQ n x y d F k < cOf (wtQ n x y d F) k → 0 ≤ oneQ n x y d F k v ∧ (pkR (rowsI (cntQ n x y d F e) 0) 0)[(oneQ n x y d F k v).toNat]? = some ((k : Int), v) := fun k v hk h1 h2 => by
    have nn : 0 ≤ ((List.range' 0 k).map (cOf (wtQ n x y d F))).sum := sum_nn _ fun z hz => by
      obtain ⟨t, ht, rfl⟩ := List.mem_map.mp hz
      have := List.mem_range'_1.mp ht
      exact (hst t (Nat.zero_le _) (by omega)).2.2.1
    have p := pk_at (wt := wtQ n x y d F) k (F + e + 1) 0 0 hk (fun t a b => ⟨(hst t a b).1, (hst t a b).2.2.1⟩) (v - wtQ n x y d F k).toNat (by rw [Nat.zero_add]; omega)
    rw [h0, Nat.zero_add] at p
    unfold oneQ cntQ
    generalize ((List.range' 0 k).map (cOf (wtQ n x y d F))).sum = S at nn p ⊢
    have e1 : (S + v - wtQ n x y d F k).toNat = S.toNat + (v - wtQ n x y d F k).toNat := by omega
    have e2 : (0 : Int) + (k : Int) = (k : Int) := by omega
    have e3 : wtQ n x y d F k + ((v - wtQ n x y d F k).toNat : Int) = v := by omega
    rw [e1, p, e2, e3]
    exact ⟨by omega, rfl⟩
  have a1 := at_first (F := F) h
  have a2 := at_second (F := F) h he
  have l1 := look F x (by omega) a1.1 a1.2
  have l2 := look (F + e) y (by omega) a2.1 a2.2
  have e4 : ((F + e : Nat) : Int) = (F : Int) + d := by omega
  rw [e4] at l2
  refine ⟨fit, l1, l2, ?_⟩
  obtain ⟨n1, x0, y0, xs, ys, d0, g1, g2, one⟩ := h
  have near := near_rows n1 (cntQ n x y d F e) 0 0 fit (Int.le_refl _)
  generalize oneQ n x y d F F x = i at l1 ⊢
  generalize oneQ n x y d F (F + e) y = j at l2 ⊢
  generalize pkR (rowsI (cntQ n x y d F e) 0) 0 = L at l1 l2 near
  rcases Int.lt_or_le i j with z | z
  · exact z
  · exfalso
    obtain ⟨i0, l1⟩ := l1
    obtain ⟨j0, l2⟩ := l2
    rcases Int.lt_or_le j i with z2 | z2
    · obtain ⟨hi, ei⟩ := List.getElem?_eq_some_iff.mp l1
      obtain ⟨hj, ej⟩ := List.getElem?_eq_some_iff.mp l2
      have := List.pairwise_iff_getElem.mp near j.toNat i.toNat hj hi (by omega)
      rw [ei, ej] at this
      obtain ⟨_, b, _⟩ := this
      have b : 1 ≤ (F : Int) - ((F : Int) + d) + x - y := b
      omega
    · have : i = j := by omega
      subst this
      rw [l1] at l2
      have := Option.some.inj l2
      rw [Prod.mk.injEq] at this
      omega
end DL

set_option Elab.async false
set_option linter.all false
set_option maxRecDepth 100000
set_option maxHeartbeats 4000000
set_option exponentiation.threshold 3000
namespace DL
open PySem L2
/-! ### the program's script of a pair -/
theorem waitsL_get {n x y d : Int} {F e t : Nat} (he : (e : Int) = d) (ht : t < F + e + 2) : (waitsL n x y d (F : Int))[t]? = some (wtQ n x y d F t) := by
  have e1 : ((F : Int) + 1).toNat = F + 1 := by omega
  have e2 : (d + 1).toNat = e + 1 := by omega
  unfold waitsL wtQ
  rw [e1, e2]
  by_cases c : t ≤ F
  · rw [if_pos c, List.getElem?_append_left (by rw [List.length_map, List.length_range]; omega), List.getElem?_map, List.getElem?_range (by omega)]
    rfl
  · rw [if_neg c, List.getElem?_append_right (by rw [List.length_map, List.length_range]; omega), List.length_map, List.length_range, List.getElem?_map, List.getElem?_range (by omega)]
    rfl
theorem waitsL_len {n x y d : Int} {F e : Nat} (he : (e : Int) = d) : (waitsL n x y d (F : Int)).length = F + e + 2 := by
  unfold waitsL
  rw [List.length_append, List.length_map, List.length_map, List.length_range, List.length_range]
  omega
def wSQScript : Ws := (wSeq (wUnp (wVar 1) (wgTup 3 (wgCons (wName 7) (wgCons (wName 8) (wgCons (wName 9) wgNil)))))
  (wSeq (wSetF 2 (wCall 2 FSSlots noX (wCons (wVar 0) (wCons (wVar 1) wNil))))
  (wSeq (wSetF 3 (wCall 2 FSQWaits noX (wCons (wVar 0) (wCons (wVar 1) wNil))))
  (wSeq (wSetF 4 (wLc [10] (wRng1 (wCons (wBin (dI0 fun i j => .int (i - j)) (wCB dLen (wCons (wVar 3) wNil)) (wC (.int 1))) wNil)) (wName 10) wYes (wBin dAdd (wBin (dI0 fun i j => .int (i - j)) (wBin dIx (wVar 3) (wBin dAdd (wVar 10) (wC (.int 1)))) (wBin dIx (wVar 3) (wVar 10))) (wC (.int 1)))))
  (wSeq (wSetF 5 (wBin (dI0 fun i j => .int (i - j)) (wBin dAdd (wCB dSumX (wCons (wSl (wVar 4) wNoPart (wPart (wVar 2))) wNil)) (wVar 7)) (wBin dIx (wVar 3) (wVar 2))))
  (wSeq (wSetF 6 (wBin (dI0 fun i j => .int (i - j)) (wBin dAdd (wCB dSumX (wCons (wSl (wVar 4) wNoPart (wPart (wBin dAdd (wVar 2) (wVar 9)))) wNil)) (wVar 8)) (wBin dIx (wVar 3) (wBin dAdd (wVar 2) (wVar 9)))))
  (wRet (wTup (wCons (wCB dTuple (wCons (wVar 4) wNil)) (wCons (wVar 5) (wCons (wVar 6) wNil)))))))))))
def FSQScript : Fd := mkF (pin [0, 1]) 11 (fun _ => wSQScript)
theorem queueScript_ok {n x y d : Int} {F e : Nat} {Q : Rz → Sl → Prop} {Ξ : Xp} (n1 : 1 ≤ n) (n4 : n ≤ 4) (hx : x.natAbs ≤ 1000) (hy : y.natAbs ≤ 1000) (he : (e : Int) = d) (d1 : d ≤ 1000) (hF : (F : Int) = firstD n x y d) (hF2 : F ≤ 10000) (h : Q (.dat (.tup [.tup ((cntQ n x y d F e).map .int), .int (oneQ n x y d F F x), .int (oneQ n x y d F (F + e) y)])) [.dat (sv "queue" n), .dat (pr3 x y d)]) :
    FSQScript [.dat (sv "queue" n), .dat (pr3 x y d)] Q Ξ := by
  unfold FSQScript mkF
  refine ⟨pinnedD (xs := [sv "queue" n, pr3 x y d]), ?_⟩
  have z3 : (3 : Nat) ≤ sizeLine := sz (by decide)
  have wl := waitsL_len (n := n) (x := x) (y := y) (F := F) he
  have wg := fun t ht => waitsL_get (n := n) (x := x) (y := y) (F := F) (t := t) he ht
  have wat : ∀ t : Nat, t < F + e + 2 → atI ((waitsL n x y d (F : Int)).map PD.int) (t : Int) = some (.int (wtQ n x y d F t)) := fun t ht => atI_nat (by rw [List.getElem?_map, wg t ht]; rfl)
  unfold wSQScript
  refine seq_to (ρ' := [.dat (sv "queue" n), .dat (pr3 x y d), .emp, .emp, .emp, .emp, .emp, .dat (.int x), .dat (.int y), .dat (.int d), .emp]) (fun N hN => ?_) ?_
  · simp only [pr3, z3, wSeq, wNext, wIfS, wSetF, wSet, into, wSetIx, wRet, wRetN, wDrop, wB, wBin, wUn, wCB, wCons, wNil, wVar, wC, wIf, wAnd, wOr, DL.wNot, wAndV, wOrV, wNotV, wTup, wLst, wSl, wNoPart, wPart, wChain, wUnp, wgTup, wgCons, wgNil, wName, wIsi, wListRg, wRg1, wRg2, wTupRg, wPuts, puts, Rz.sd, wConsH, wAppend, wExtend, ownL, dI, dI0, dIx, dInt, dAbs, dLen, dMax2, dMin2, dSum, dSumX, dAll, dAny, dList, dTuple, dAdd, dNeg, dIsN, dNotN, PD.isN, dSl, look, looks, ok, Rz.pd, SD.pd, OD.pd, Rz.cold, Rz.cool, warm, pdsOf, frz, frzAll, leave, argOf, onceB, newBor, isBor, ty_non, ty_bl, ty_int, ty_str, ty_lst, ty_scr, ty_tup, ty_dct, isa, String.reduceBEq, jR, jS, jU, uD, jW, wYes, wCall, backS_0, backS_1, backS_2, backS_3, backS_4, backS_o0, backS_o1, backS_o2, backS_o3, dEq_int, dEq_str, dNeX_int, dNeX_str, jC, jD, jE, jF, List.replicate, Nat.reduceAdd, Nat.reduceSub, jA, jB, jG, jH, jI, jJ, jK, jL, jM, jP, jQ, true_or, or_true, true_and, and_true, jV, jT, jY, jZ, uC, uA, uB, decide_true, decide_false, wFor, wRng1, wRng2, wLc, wSeqI, items, wEnumX, wCallO, wNever, noOwn, jN, jO, wipeS, jX, uE, atI0a, atI0b, atI0c, atI1b, atI1c, atI2c, wZipX, seqP, wRaise, wIsE, wVal, wMk, wPopAt, wPop, wAug, wTr, dTr, dLtX, dDivmod, wPick, pick, List.filterMap_cons, List.filterMap_nil]
    exact hN
  refine seq_to (ρ' := [.dat (sv "queue" n), .dat (pr3 x y d), .dat (.int (F : Int)), .emp, .emp, .emp, .emp, .dat (.int x), .dat (.int y), .dat (.int d), .emp]) (fun N hN => ?_) ?_
  · simp only [wSeq, wNext, wIfS, wSetF, wSet, into, wSetIx, wRet, wRetN, wDrop, wB, wBin, wUn, wCB, wCons, wNil, wVar, wC, wIf, wAnd, wOr, DL.wNot, wAndV, wOrV, wNotV, wTup, wLst, wSl, wNoPart, wPart, wChain, wUnp, wgTup, wgCons, wgNil, wName, wIsi, wListRg, wRg1, wRg2, wTupRg, wPuts, puts, Rz.sd, wConsH, wAppend, wExtend, ownL, dI, dI0, dIx, dInt, dAbs, dLen, dMax2, dMin2, dSum, dSumX, dAll, dAny, dList, dTuple, dAdd, dNeg, dIsN, dNotN, PD.isN, dSl, look, looks, ok, Rz.pd, SD.pd, OD.pd, Rz.cold, Rz.cool, warm, pdsOf, frz, frzAll, leave, argOf, onceB, newBor, isBor, ty_non, ty_bl, ty_int, ty_str, ty_lst, ty_scr, ty_tup, ty_dct, isa, String.reduceBEq, jR, jS, jU, uD, jW, wYes, wCall, backS_0, backS_1, backS_2, backS_3, backS_4, backS_o0, backS_o1, backS_o2, backS_o3, dEq_int, dEq_str, dNeX_int, dNeX_str, jC, jD, jE, jF, List.replicate, Nat.reduceAdd, Nat.reduceSub, jA, jB, jG, jH, jI, jJ, jK, jL, jM, jP, jQ, true_or, or_true, true_and, and_true, jV, jT, jY, jZ, uC, uA, uB, decide_true, decide_false, wFor, wRng1, wRng2, wLc, wSeqI, items, wEnumX, wCallO, wNever, noOwn, jN, jO, wipeS, jX, uE, atI0a, atI0b, atI0c, atI1b, atI1c, atI2c, wZipX, seqP, wRaise, wIsE, wVal, wMk, wPopAt, wPop, wAug, wTr, dTr, dLtX, dDivmod, wPick, pick, List.filterMap_cons, List.filterMap_nil]
    refine slotsD_ok n1 n4 (by omega) (by omega) (by omega) ?_
    rw [← hF]
    exact ⟨.inl rfl, hN⟩
  refine seq_to (ρ' := [.dat (sv "queue" n), .dat (pr3 x y d), .dat (.int (F : Int)), .dat (.lst ((waitsL n x y d (F : Int)).map .int)), .emp, .emp, .emp, .dat (.int x), .dat (.int y), .dat (.int d), .emp]) (fun N hN => ?_) ?_
  · simp only [wSeq, wNext, wIfS, wSetF, wSet, into, wSetIx, wRet, wRetN, wDrop, wB, wBin, wUn, wCB, wCons, wNil, wVar, wC, wIf, wAnd, wOr, DL.wNot, wAndV, wOrV, wNotV, wTup, wLst, wSl, wNoPart, wPart, wChain, wUnp, wgTup, wgCons, wgNil, wName, wIsi, wListRg, wRg1, wRg2, wTupRg, wPuts, puts, Rz.sd, wConsH, wAppend, wExtend, ownL, dI, dI0, dIx, dInt, dAbs, dLen, dMax2, dMin2, dSum, dSumX, dAll, dAny, dList, dTuple, dAdd, dNeg, dIsN, dNotN, PD.isN, dSl, look, looks, ok, Rz.pd, SD.pd, OD.pd, Rz.cold, Rz.cool, warm, pdsOf, frz, frzAll, leave, argOf, onceB, newBor, isBor, ty_non, ty_bl, ty_int, ty_str, ty_lst, ty_scr, ty_tup, ty_dct, isa, String.reduceBEq, jR, jS, jU, uD, jW, wYes, wCall, backS_0, backS_1, backS_2, backS_3, backS_4, backS_o0, backS_o1, backS_o2, backS_o3, dEq_int, dEq_str, dNeX_int, dNeX_str, jC, jD, jE, jF, List.replicate, Nat.reduceAdd, Nat.reduceSub, jA, jB, jG, jH, jI, jJ, jK, jL, jM, jP, jQ, true_or, or_true, true_and, and_true, jV, jT, jY, jZ, uC, uA, uB, decide_true, decide_false, wFor, wRng1, wRng2, wLc, wSeqI, items, wEnumX, wCallO, wNever, noOwn, jN, jO, wipeS, jX, uE, atI0a, atI0b, atI0c, atI1b, atI1c, atI2c, wZipX, seqP, wRaise, wIsE, wVal, wMk, wPopAt, wPop, wAug, wTr, dTr, dLtX, dDivmod, wPick, pick, List.filterMap_cons, List.filterMap_nil]
    refine queueWaits_ok n1 n4 hx hy (by omega) d1 (by omega) ?_
    rw [← hF]
    exact ⟨.inr ⟨_, rfl⟩, hN⟩
  refine seq_to (ρ' := [.dat (sv "queue" n), .dat (pr3 x y d), .dat (.int (F : Int)), .dat (.lst ((waitsL n x y d (F : Int)).map .int)), .dat (.lst ((cntQ n x y d F e).map .int)), .emp, .emp, .dat (.int x), .dat (.int y), .dat (.int d), .emp]) (fun N hN => ?_) ?_
  · simp only [List.length_map, wl, wSeq, wNext, wIfS, wSetF, wSet, into, wSetIx, wRet, wRetN, wDrop, wB, wBin, wUn, wCB, wCons, wNil, wVar, wC, wIf, wAnd, wOr, DL.wNot, wAndV, wOrV, wNotV, wTup, wLst, wSl, wNoPart, wPart, wChain, wUnp, wgTup, wgCons, wgNil, wName, wIsi, wListRg, wRg1, wRg2, wTupRg, wPuts, puts, Rz.sd, wConsH, wAppend, wExtend, ownL, dI, dI0, dIx, dInt, dAbs, dLen, dMax2, dMin2, dSum, dSumX, dAll, dAny, dList, dTuple, dAdd, dNeg, dIsN, dNotN, PD.isN, dSl, look, looks, ok, Rz.pd, SD.pd, OD.pd, Rz.cold, Rz.cool, warm, pdsOf, frz, frzAll, leave, argOf, onceB, newBor, isBor, ty_non, ty_bl, ty_int, ty_str, ty_lst, ty_scr, ty_tup, ty_dct, isa, String.reduceBEq, jR, jS, jU, uD, jW, wYes, wCall, backS_0, backS_1, backS_2, backS_3, backS_4, backS_o0, backS_o1, backS_o2, backS_o3, dEq_int, dEq_str, dNeX_int, dNeX_str, jC, jD, jE, jF, List.replicate, Nat.reduceAdd, Nat.reduceSub, jA, jB, jG, jH, jI, jJ, jK, jL, jM, jP, jQ, true_or, or_true, true_and, and_true, jV, jT, jY, jZ, uC, uA, uB, decide_true, decide_false, wFor, wRng1, wRng2, wLc, wSeqI, items, wEnumX, wCallO, wNever, noOwn, jN, jO, wipeS, jX, uE, atI0a, atI0b, atI0c, atI1b, atI1c, atI2c, wZipX, seqP, wRaise, wIsE, wVal, wMk, wPopAt, wPop, wAug, wTr, dTr, dLtX, dDivmod, wPick, pick, List.filterMap_cons, List.filterMap_nil]
    refine ⟨⟨by omega, by omega⟩, ?_⟩
    have em : (((F + e + 2 : Nat) : Int) - 1).toNat = F + e + 1 := by omega
    rw [em]
    have hlr : (rgP 0 (F + e + 1)).length = F + e + 1 := by unfold rgP; rw [List.length_map, List.length_range]
    refine compL_same (g := fun q => match q with | .int a => .int (cOf (wtQ n x y d F) a.toNat) | _ => .non) (by rw [hlr]; omega) (fun q hq acc N hacc hN => ?_) ?_
    · unfold rgP at hq
      obtain ⟨a, ha, rfl⟩ := List.mem_map.mp hq
      have ha := List.mem_range.mp ha
      have e0 : (0 + (a : Int)).toNat = a := by omega
      simp only [e0, cOf] at hN
      have w1 := wat a (by omega)
      have w2 := wat (a + 1) (by omega)
      have e1 : ((a + 1 : Nat) : Int) = (a : Int) + 1 := by omega
      rw [e1] at w2
      simp only [Int.zero_add, w1, w2, wSeq, wNext, wIfS, wSetF, wSet, into, wSetIx, wRet, wRetN, wDrop, wB, wBin, wUn, wCB, wCons, wNil, wVar, wC, wIf, wAnd, wOr, DL.wNot, wAndV, wOrV, wNotV, wTup, wLst, wSl, wNoPart, wPart, wChain, wUnp, wgTup, wgCons, wgNil, wName, wIsi, wListRg, wRg1, wRg2, wTupRg, wPuts, puts, Rz.sd, wConsH, wAppend, wExtend, ownL, dI, dI0, dIx, dInt, dAbs, dLen, dMax2, dMin2, dSum, dSumX, dAll, dAny, dList, dTuple, dAdd, dNeg, dIsN, dNotN, PD.isN, dSl, look, looks, ok, Rz.pd, SD.pd, OD.pd, Rz.cold, Rz.cool, warm, pdsOf, frz, frzAll, leave, argOf, onceB, newBor, isBor, ty_non, ty_bl, ty_int, ty_str, ty_lst, ty_scr, ty_tup, ty_dct, isa, String.reduceBEq, jR, jS, jU, uD, jW, wYes, wCall, backS_0, backS_1, backS_2, backS_3, backS_4, backS_o0, backS_o1, backS_o2, backS_o3, dEq_int, dEq_str, dNeX_int, dNeX_str, jC, jD, jE, jF, List.replicate, Nat.reduceAdd, Nat.reduceSub, jA, jB, jG, jH, jI, jJ, jK, jL, jM, jP, jQ, true_or, or_true, true_and, and_true, jV, jT, jY, jZ, uC, uA, uB, decide_true, decide_false, wFor, wRng1, wRng2, wLc, wSeqI, items, wEnumX, wCallO, wNever, noOwn, jN, jO, wipeS, jX, uE, atI0a, atI0b, atI0c, atI1b, atI1c, atI2c, wZipX, seqP, wRaise, wIsE, wVal, wMk, wPopAt, wPop, wAug, wTr, dTr, dLtX, dDivmod, wPick, pick, List.filterMap_cons, List.filterMap_nil]
      exact ⟨hacc, hN⟩
    · have ee : (rgP 0 (F + e + 1)).map (fun q => match q with | .int a => PD.int (cOf (wtQ n x y d F) a.toNat) | _ => .non) = (cntQ n x y d F e).map .int := by
        unfold rgP cntQ
        rw [List.map_map, List.map_map, ← List.range_eq_range']
        refine List.map_congr_left fun a ha => ?_
        show PD.int (cOf (wtQ n x y d F) (0 + (a : Int)).toNat) = PD.int (cOf (wtQ n x y d F) a)
        have e0 : (0 + (a : Int)).toNat = a := by omega
        rw [e0]
      rw [ee]
      simp only [restore, wSeq, wNext, wIfS, wSetF, wSet, into, wSetIx, wRet, wRetN, wDrop, wB, wBin, wUn, wCB, wCons, wNil, wVar, wC, wIf, wAnd, wOr, DL.wNot, wAndV, wOrV, wNotV, wTup, wLst, wSl, wNoPart, wPart, wChain, wUnp, wgTup, wgCons, wgNil, wName, wIsi, wListRg, wRg1, wRg2, wTupRg, wPuts, puts, Rz.sd, wConsH, wAppend, wExtend, ownL, dI, dI0, dIx, dInt, dAbs, dLen, dMax2, dMin2, dSum, dSumX, dAll, dAny, dList, dTuple, dAdd, dNeg, dIsN, dNotN, PD.isN, dSl, look, looks, ok, Rz.pd, SD.pd, OD.pd, Rz.cold, Rz.cool, warm, pdsOf, frz, frzAll, leave, argOf, onceB, newBor, isBor, ty_non, ty_bl, ty_int, ty_str, ty_lst, ty_scr, ty_tup, ty_dct, isa, String.reduceBEq, jR, jS, jU, uD, jW, wYes, wCall, backS_0, backS_1, backS_2, backS_3, backS_4, backS_o0, backS_o1, backS_o2, backS_o3, dEq_int, dEq_str, dNeX_int, dNeX_str, jC, jD, jE, jF, List.replicate, Nat.reduceAdd, Nat.reduceSub, jA, jB, jG, jH, jI, jJ, jK, jL, jM, jP, jQ, true_or, or_true, true_and, and_true, jV, jT, jY, jZ, uC, uA, uB, decide_true, decide_false, wFor, wRng1, wRng2, wLc, wSeqI, items, wEnumX, wCallO, wNever, noOwn, jN, jO, wipeS, jX, uE, atI0a, atI0b, atI0c, atI1b, atI1c, atI2c, wZipX, seqP, wRaise, wIsE, wVal, wMk, wPopAt, wPop, wAug, wTr, dTr, dLtX, dDivmod, wPick, pick, List.filterMap_cons, List.filterMap_nil]
      exact ⟨.inr ⟨_, rfl⟩, hN⟩
  have ct : ∀ k : Nat, k ≤ F + e + 1 → cutP ((cntQ n x y d F e).map PD.int) none (some (k : Int)) = ((List.range' 0 k).map (cOf (wtQ n x y d F))).map .int := fun k hk => by
    have tr : (List.range' 0 (F + e + 1)).take k = List.range' 0 k := by
      rw [← List.range_eq_range', ← List.range_eq_range', List.take_range, Nat.min_eq_left hk]
    unfold cntQ
    rw [cut_first, ← List.map_take, ← List.map_take, tr]
  have ei : ((F : Int) + d) = ((F + e : Nat) : Int) := by omega
  have c1 := ct F (by omega)
  have c2 := ct (F + e) (by omega)
  have w1 := wat F (by omega)
  have w2 := wat (F + e) (by omega)
  refine seq_to (ρ' := [.dat (sv "queue" n), .dat (pr3 x y d), .dat (.int (F : Int)), .dat (.lst ((waitsL n x y d (F : Int)).map .int)), .dat (.lst ((cntQ n x y d F e).map .int)), .dat (.int (oneQ n x y d F F x)), .emp, .dat (.int x), .dat (.int y), .dat (.int d), .emp]) (fun N hN => ?_) ?_
  · unfold oneQ at hN
    simp only [dSl, c1, w1, dSumX, intsOf_is, wSeq, wNext, wIfS, wSetF, wSet, into, wSetIx, wRet, wRetN, wDrop, wB, wBin, wUn, wCB, wCons, wNil, wVar, wC, wIf, wAnd, wOr, DL.wNot, wAndV, wOrV, wNotV, wTup, wLst, wSl, wNoPart, wPart, wChain, wUnp, wgTup, wgCons, wgNil, wName, wIsi, wListRg, wRg1, wRg2, wTupRg, wPuts, puts, Rz.sd, wConsH, wAppend, wExtend, ownL, dI, dI0, dIx, dInt, dAbs, dLen, dMax2, dMin2, dSum, dSumX, dAll, dAny, dList, dTuple, dAdd, dNeg, dIsN, dNotN, PD.isN, dSl, look, looks, ok, Rz.pd, SD.pd, OD.pd, Rz.cold, Rz.cool, warm, pdsOf, frz, frzAll, leave, argOf, onceB, newBor, isBor, ty_non, ty_bl, ty_int, ty_str, ty_lst, ty_scr, ty_tup, ty_dct, isa, String.reduceBEq, jR, jS, jU, uD, jW, wYes, wCall, backS_0, backS_1, backS_2, backS_3, backS_4, backS_o0, backS_o1, backS_o2, backS_o3, dEq_int, dEq_str, dNeX_int, dNeX_str, jC, jD, jE, jF, List.replicate, Nat.reduceAdd, Nat.reduceSub, jA, jB, jG, jH, jI, jJ, jK, jL, jM, jP, jQ, true_or, or_true, true_and, and_true, jV, jT, jY, jZ, uC, uA, uB, decide_true, decide_false, wFor, wRng1, wRng2, wLc, wSeqI, items, wEnumX, wCallO, wNever, noOwn, jN, jO, wipeS, jX, uE, atI0a, atI0b, atI0c, atI1b, atI1c, atI2c, wZipX, seqP, wRaise, wIsE, wVal, wMk, wPopAt, wPop, wAug, wTr, dTr, dLtX, dDivmod, wPick, pick, List.filterMap_cons, List.filterMap_nil]
    exact ⟨.inr ⟨_, rfl⟩, hN⟩
  refine seq_to (ρ' := [.dat (sv "queue" n), .dat (pr3 x y d), .dat (.int (F : Int)), .dat (.lst ((waitsL n x y d (F : Int)).map .int)), .dat (.lst ((cntQ n x y d F e).map .int)), .dat (.int (oneQ n x y d F F x)), .dat (.int (oneQ n x y d F (F + e) y)), .dat (.int x), .dat (.int y), .dat (.int d), .emp]) (fun N hN => ?_) ?_
  · unfold oneQ at hN ⊢
    simp only [dSl, ei, c2, w2, dSumX, intsOf_is, wSeq, wNext, wIfS, wSetF, wSet, into, wSetIx, wRet, wRetN, wDrop, wB, wBin, wUn, wCB, wCons, wNil, wVar, wC, wIf, wAnd, wOr, DL.wNot, wAndV, wOrV, wNotV, wTup, wLst, wSl, wNoPart, wPart, wChain, wUnp, wgTup, wgCons, wgNil, wName, wIsi, wListRg, wRg1, wRg2, wTupRg, wPuts, puts, Rz.sd, wConsH, wAppend, wExtend, ownL, dI, dI0, dIx, dInt, dAbs, dLen, dMax2, dMin2, dSum, dSumX, dAll, dAny, dList, dTuple, dAdd, dNeg, dIsN, dNotN, PD.isN, dSl, look, looks, ok, Rz.pd, SD.pd, OD.pd, Rz.cold, Rz.cool, warm, pdsOf, frz, frzAll, leave, argOf, onceB, newBor, isBor, ty_non, ty_bl, ty_int, ty_str, ty_lst, ty_scr, ty_tup, ty_dct, isa, String.reduceBEq, jR, jS, jU, uD, jW, wYes, wCall, backS_0, backS_1, backS_2, backS_3, backS_4, backS_o0, backS_o1, backS_o2, backS_o3, dEq_int, dEq_str, dNeX_int, dNeX_str, jC, jD, jE, jF, List.replicate, Nat.reduceAdd, Nat.reduceSub, jA, jB, jG, jH, jI, jJ, jK, jL, jM, jP, jQ, true_or, or_true, true_and, and_true, jV, jT, jY, jZ, uC, uA, uB, decide_true, decide_false, wFor, wRng1, wRng2, wLc, wSeqI, items, wEnumX, wCallO, wNever, noOwn, jN, jO, wipeS, jX, uE, atI0a, atI0b, atI0c, atI1b, atI1c, atI2c, wZipX, seqP, wRaise, wIsE, wVal, wMk, wPopAt, wPop, wAug, wTr, dTr, dLtX, dDivmod, wPick, pick, List.filterMap_cons, List.filterMap_nil]
    exact ⟨.inr ⟨_, rfl⟩, hN⟩
  · simp only [z3, wSeq, wNext, wIfS, wSetF, wSet, into, wSetIx, wRet, wRetN, wDrop, wB, wBin, wUn, wCB, wCons, wNil, wVar, wC, wIf, wAnd, wOr, DL.wNot, wAndV, wOrV, wNotV, wTup, wLst, wSl, wNoPart, wPart, wChain, wUnp, wgTup, wgCons, wgNil, wName, wIsi, wListRg, wRg1, wRg2, wTupRg, wPuts, puts, Rz.sd, wConsH, wAppend, wExtend, ownL, dI, dI0, dIx, dInt, dAbs, dLen, dMax2, dMin2, dSum, dSumX, dAll, dAny, dList, dTuple, dAdd, dNeg, dIsN, dNotN, PD.isN, dSl, look, looks, ok, Rz.pd, SD.pd, OD.pd, Rz.cold, Rz.cool, warm, pdsOf, frz, frzAll, leave, argOf, onceB, newBor, isBor, ty_non, ty_bl, ty_int, ty_str, ty_lst, ty_scr, ty_tup, ty_dct, isa, String.reduceBEq, jR, jS, jU, uD, jW, wYes, wCall, backS_0, backS_1, backS_2, backS_3, backS_4, backS_o0, backS_o1, backS_o2, backS_o3, dEq_int, dEq_str, dNeX_int, dNeX_str, jC, jD, jE, jF, List.replicate, Nat.reduceAdd, Nat.reduceSub, jA, jB, jG, jH, jI, jJ, jK, jL, jM, jP, jQ, true_or, or_true, true_and, and_true, jV, jT, jY, jZ, uC, uA, uB, decide_true, decide_false, wFor, wRng1, wRng2, wLc, wSeqI, items, wEnumX, wCallO, wNever, noOwn, jN, jO, wipeS, jX, uE, atI0a, atI0b, atI0c, atI1b, atI1c, atI2c, wZipX, seqP, wRaise, wIsE, wVal, wMk, wPopAt, wPop, wAug, wTr, dTr, dLtX, dDivmod, wPick, pick, List.filterMap_cons, List.filterMap_nil]
    exact h
end DL

set_option Elab.async false
set_option linter.all false
set_option maxRecDepth 100000
set_option maxHeartbeats 4000000
set_option exponentiation.threshold 3000
namespace DL
open PySem L2
/-! ### the script of a pair when delays are told -/
def lateN (a : Bool) : Nat → Int → Int
  | 0, h => h
  | k + 1, h => lateN a k (laterH a h)
theorem fitT_rep {a : Bool} {n size : Int} (n0 : 0 ≤ n) {rest : List (List Int)} : ∀ (k : Nat) (h : Int), FitT a n size rest (lateN a k h) → FitT a n size (List.replicate k [] ++ rest) h
  | 0, h, f => by rw [List.replicate_zero, List.nil_append]; exact f
  | k + 1, h, f => by
    rw [List.replicate_succ, List.cons_append, FitT]
    exact ⟨⟨n0, trivial⟩, fitT_rep n0 k (laterH a h) f⟩
theorem late_any : ∀ (k v : Nat), lateN true k (v : Int) = ((v / 2 ^ k : Nat) : Int)
  | 0, v => by rw [Nat.pow_zero, Nat.div_one]; rfl
  | k + 1, v => by
    have e : laterH true (v : Int) = ((v / 2 : Nat) : Int) := by
      show (v : Int) / 2 = _
      omega
    rw [lateN, e, late_any k (v / 2), Nat.div_div_eq_div_mul, Nat.pow_succ, Nat.mul_comm 2]
theorem late_order : ∀ (k : Nat) (h : Int), 0 ≤ h → lateN false k h = if h - (k : Int) < 0 then 0 else h - (k : Int)
  | 0, h, h0 => by
    show h = _
    split <;> omega
  | k + 1, h, h0 => by
    have e : laterH false h = if 0 > h - 1 then 0 else h - 1 := rfl
    have l0 := later_nn (a := false) h0
    rw [lateN, late_order k _ l0, e]
    split <;> split <;> split <;> omega
/-- what is not free after so many slots -/
theorem free_late {a : Bool} {x y : Int} {k : Nat} (x0 : 0 ≤ x) (y0 : 0 ≤ y) (h : if a = true then (k : Int) + y - x ≠ 0 else 1 ≤ (k : Int) + y - x) : freeH a (lateN a k (withH a 0 x)) y = true := by
  cases a with
  | true =>
    have h : (k : Int) + y - x ≠ 0 := h
    have e : withH true 0 x = ((2 ^ x.toNat : Nat) : Int) := by
      show (((0 : Int).toNat ||| 2 ^ x.toNat : Nat) : Int) = _
      have : ((0 : Int).toNat ||| 2 ^ x.toNat) = 2 ^ x.toNat := Nat.zero_or _
      rw [this]
    rw [e, late_any]
    show (!(((2 ^ x.toNat / 2 ^ k : Nat) : Int).toNat).testBit y.toNat) = true
    rw [Int.toNat_natCast, Nat.testBit_div_two_pow, Nat.testBit_two_pow]
    have : ¬ (x.toNat = y.toNat + k) := by omega
    rw [Bool.not_eq_true', decide_eq_false_iff_not]
    omega
  | false =>
    have h : 1 ≤ (k : Int) + y - x := h
    have e : withH false 0 x = x + 1 := rfl
    rw [e, late_order k _ (by omega)]
    show decide (_ ≤ y) = true
    rw [decide_eq_true_eq]
    split <;> omega
def prT (x y : Int) : Nat → List (List Int)
  | 0 => [[x, y]]
  | k + 1 => [x] :: (List.replicate k [] ++ [[y]])
theorem free_none {a : Bool} {x : Int} (x0 : 0 ≤ x) : freeH a 0 x = true := by
  cases a with
  | true =>
    show (!((0 : Int).toNat).testBit x.toNat) = true
    have : (0 : Int).toNat = 0 := rfl
    rw [this, Nat.zero_testBit]; rfl
  | false =>
    show decide ((0 : Int) ≤ x) = true
    exact decide_eq_true x0
theorem prT_fit {a : Bool} {n size x y : Int} {k : Nat} (n1 : 1 ≤ n) (nk : n = 1 → k ≠ 0) (x0 : 0 ≤ x) (y0 : 0 ≤ y) (xs : x ≤ size) (ys : y ≤ size) (h : if a = true then (k : Int) + y - x ≠ 0 else 1 ≤ (k : Int) + y - x) : FitT a n size (prT x y k) 0 := by
  have f1 := free_none (a := a) x0
  have f2 := free_late x0 y0 h
  cases k with
  | zero =>
    have n2 : n ≠ 1 := fun z => nk z rfl
    refine ⟨⟨by show ((2 : Nat) : Int) ≤ n; omega, ⟨⟨x0, xs, f1⟩, ⟨y0, ys, f2⟩, trivial⟩⟩, trivial⟩
  | succ k =>
    refine ⟨⟨by show ((1 : Nat) : Int) ≤ n; omega, ⟨x0, xs, f1⟩, trivial⟩, ?_⟩
    refine fitT_rep (by omega) k _ ?_
    exact ⟨⟨by show ((1 : Nat) : Int) ≤ n; omega, ⟨y0, ys, f2⟩, trivial⟩, trivial⟩
theorem prT_packets (x y : Int) : ∀ k : Nat, pkR (prT x y k) 0 = [(0, x), ((k : Int), y)]
  | 0 => rfl
  | k + 1 => by
    show pkR ([x] :: (List.replicate k [] ++ [[y]])) 0 = _
    rw [pkR, pkR_idle]
    have e : (0 : Int) + 1 + (k : Int) = ((k + 1 : Nat) : Int) := by omega
    rw [e]
    rfl
theorem prT_len (x y : Int) (k : Nat) : (prT x y k).length = k + 1 := by
  cases k with
  | zero => rfl
  | succ k =>
    show (List.replicate k [] ++ [[y]]).length + 1 = _
    rw [List.length_append, List.length_replicate]
    rfl
/-- a pair that can be in a queue -/
theorem pairQ_of {n size x y d : Int} (n1 : 1 ≤ n) (x0 : 0 ≤ x) (y0 : 0 ≤ y) (d0 : 0 ≤ d) (h : canB "queue" n size x y d = true) : PairQ n size x y d := by
  have ne2 : ("queue" : Str) ≠ "any" := by decide +kernel
  have ne3 : ("queue" : Str) ≠ "order" := by decide +kernel
  have hm : x ≤ size ∧ y ≤ size := by
    by_cases m : size < (if y > x then y else x)
    · unfold canB at h
      rw [decide_eq_true m] at h
      simp at h
    · by_cases q : y > x
      · rw [if_pos q] at m; omega
      · rw [if_neg q] at m; omega
  rw [can_out hm.1 hm.2, if_neg ne2, if_neg ne3] at h
  by_cases q : n = 1 ∧ d = 0
  · rw [if_pos q] at h; cases h
  · rw [if_neg q] at h
    by_cases c : n = 1
    · rw [if_pos c, Bool.and_eq_true, decide_eq_true_eq, decide_eq_true_eq] at h
      subst c
      exact ⟨n1, x0, y0, hm.1, hm.2, d0, by omega, by omega, fun _ => h⟩
    · rw [if_neg c, Bool.and_eq_true, decide_eq_true_eq, decide_eq_true_eq] at h
      exact ⟨n1, x0, y0, hm.1, hm.2, d0, h.1, h.2, fun z => absurd z c⟩
end DL

set_option Elab.async false
set_option linter.all false
set_option maxRecDepth 100000
set_option maxHeartbeats 4000000
set_option exponentiation.threshold 3000
namespace DL
open PySem L2
/-! ### can_be -/
def wSCanBe (A B C : Fd) (Ξ : Xp) : Ws := (wSeq (wDrop (wCall 1 A Ξ (wCons (wVar 0) wNil)))
  (wSeq (wDrop (wCall 1 B Ξ (wCons (wVar 1) wNil)))
  (wSeq (wDrop (wCall 2 C Ξ (wCons (wVar 1) (wCons (wVar 2) wNil))))
  (wRet (wCall 2 FIsPossible noX (wCons (wVar 0) (wCons (wVar 2) wNil)))))))
def FSCanBe (A B C : Fd) : Fd := mkF (pin [0, 1, 2]) 3 (wSCanBe A B C)
theorem canBe_ok {R0 RZ R1 R2 : Xp → Ws} {w : Str} {n size x y d : Int} {Q : Rz → Sl → Prop} {Ξ : Xp} (hs : Sv w n) (s1 : 1 ≤ size) (s4 : size ≤ 400) (x0 : 0 ≤ x) (x1 : x ≤ size) (y0 : 0 ≤ y) (y1 : y ≤ size) (d0 : 0 ≤ d) (d1 : d ≤ 400)
    (h : Q (.dat (.bl (canB w n size x y d))) [.dat (sv w n), .dat (.int size), .dat (.tup [.int x, .int y, .int d])]) :
    FSCanBe (FCheckService R0) (FS_check_size RZ) (FS_check_pair R1 R2) [.dat (sv w n), .dat (.int size), .dat (.tup [.int x, .int y, .int d])] Q Ξ := by
  unfold FSCanBe mkF
  refine ⟨pinnedD (xs := [sv w n, .int size, .tup [.int x, .int y, .int d]]), ?_⟩
  unfold wSCanBe
  refine seq_to (ρ' := [.dat (sv w n), .dat (.int size), .dat (.tup [.int x, .int y, .int d])]) (fun N hN => ?_) ?_
  · simp only [wSeq, wNext, wIfS, wSetF, wSet, into, wSetIx, wRet, wRetN, wDrop, wB, wBin, wUn, wCB, wCons, wNil, wVar, wC, wIf, wAnd, wOr, DL.wNot, wAndV, wOrV, wNotV, wTup, wLst, wSl, wNoPart, wPart, wChain, wUnp, wgTup, wgCons, wgNil, wName, wIsi, wListRg, wRg1, wRg2, wTupRg, wPuts, puts, Rz.sd, wConsH, wAppend, wExtend, ownL, dI, dI0, dIx, dInt, dAbs, dLen, dMax2, dMin2, dSum, dSumX, dAll, dAny, dList, dTuple, dAdd, dNeg, dIsN, dNotN, PD.isN, dSl, look, looks, ok, Rz.pd, SD.pd, OD.pd, Rz.cold, Rz.cool, warm, pdsOf, frz, frzAll, leave, argOf, onceB, newBor, isBor, ty_non, ty_bl, ty_int, ty_str, ty_lst, ty_scr, ty_tup, ty_dct, isa, String.reduceBEq, jR, jS, jU, uD, jW, wYes, wCall, backS_0, backS_1, backS_2, backS_3, backS_4, backS_o0, backS_o1, backS_o2, backS_o3, dEq_int, dEq_str, dNeX_int, dNeX_str, jC, jD, jE, jF, List.replicate, Nat.reduceAdd, Nat.reduceSub, jA, jB, jG, jH, jI, jJ, jK, jL, jM, jP, jQ, true_or, or_true, true_and, and_true, jV, jT, jY, jZ, uC, uA, uB, decide_true, decide_false, wFor, wRng1, wRng2, wLc, wSeqI, items, wEnumX, wCallO, wNever, noOwn, jN, jO, wipeS, jX, uE, atI0a, atI0b, atI0c, atI1b, atI1c, atI2c, wZipX, seqP, wRaise, wIsE, wVal, wMk, wPopAt, wPop, wAug, wTr, dTr, dLtX, dDivmod, wPick, pick, List.filterMap_cons, List.filterMap_nil]
    exact checkService_ok hs hN
  refine seq_to (ρ' := [.dat (sv w n), .dat (.int size), .dat (.tup [.int x, .int y, .int d])]) (fun N hN => ?_) ?_
  · simp only [wSeq, wNext, wIfS, wSetF, wSet, into, wSetIx, wRet, wRetN, wDrop, wB, wBin, wUn, wCB, wCons, wNil, wVar, wC, wIf, wAnd, wOr, DL.wNot, wAndV, wOrV, wNotV, wTup, wLst, wSl, wNoPart, wPart, wChain, wUnp, wgTup, wgCons, wgNil, wName, wIsi, wListRg, wRg1, wRg2, wTupRg, wPuts, puts, Rz.sd, wConsH, wAppend, wExtend, ownL, dI, dI0, dIx, dInt, dAbs, dLen, dMax2, dMin2, dSum, dSumX, dAll, dAny, dList, dTuple, dAdd, dNeg, dIsN, dNotN, PD.isN, dSl, look, looks, ok, Rz.pd, SD.pd, OD.pd, Rz.cold, Rz.cool, warm, pdsOf, frz, frzAll, leave, argOf, onceB, newBor, isBor, ty_non, ty_bl, ty_int, ty_str, ty_lst, ty_scr, ty_tup, ty_dct, isa, String.reduceBEq, jR, jS, jU, uD, jW, wYes, wCall, backS_0, backS_1, backS_2, backS_3, backS_4, backS_o0, backS_o1, backS_o2, backS_o3, dEq_int, dEq_str, dNeX_int, dNeX_str, jC, jD, jE, jF, List.replicate, Nat.reduceAdd, Nat.reduceSub, jA, jB, jG, jH, jI, jJ, jK, jL, jM, jP, jQ, true_or, or_true, true_and, and_true, jV, jT, jY, jZ, uC, uA, uB, decide_true, decide_false, wFor, wRng1, wRng2, wLc, wSeqI, items, wEnumX, wCallO, wNever, noOwn, jN, jO, wipeS, jX, uE, atI0a, atI0b, atI0c, atI1b, atI1c, atI2c, wZipX, seqP, wRaise, wIsE, wVal, wMk, wPopAt, wPop, wAug, wTr, dTr, dLtX, dDivmod, wPick, pick, List.filterMap_cons, List.filterMap_nil]
    exact checkSize_ok (by omega) (by omega) hN
  refine seq_to (ρ' := [.dat (sv w n), .dat (.int size), .dat (.tup [.int x, .int y, .int d])]) (fun N hN => ?_) ?_
  · simp only [wSeq, wNext, wIfS, wSetF, wSet, into, wSetIx, wRet, wRetN, wDrop, wB, wBin, wUn, wCB, wCons, wNil, wVar, wC, wIf, wAnd, wOr, DL.wNot, wAndV, wOrV, wNotV, wTup, wLst, wSl, wNoPart, wPart, wChain, wUnp, wgTup, wgCons, wgNil, wName, wIsi, wListRg, wRg1, wRg2, wTupRg, wPuts, puts, Rz.sd, wConsH, wAppend, wExtend, ownL, dI, dI0, dIx, dInt, dAbs, dLen, dMax2, dMin2, dSum, dSumX, dAll, dAny, dList, dTuple, dAdd, dNeg, dIsN, dNotN, PD.isN, dSl, look, looks, ok, Rz.pd, SD.pd, OD.pd, Rz.cold, Rz.cool, warm, pdsOf, frz, frzAll, leave, argOf, onceB, newBor, isBor, ty_non, ty_bl, ty_int, ty_str, ty_lst, ty_scr, ty_tup, ty_dct, isa, String.reduceBEq, jR, jS, jU, uD, jW, wYes, wCall, backS_0, backS_1, backS_2, backS_3, backS_4, backS_o0, backS_o1, backS_o2, backS_o3, dEq_int, dEq_str, dNeX_int, dNeX_str, jC, jD, jE, jF, List.replicate, Nat.reduceAdd, Nat.reduceSub, jA, jB, jG, jH, jI, jJ, jK, jL, jM, jP, jQ, true_or, or_true, true_and, and_true, jV, jT, jY, jZ, uC, uA, uB, decide_true, decide_false, wFor, wRng1, wRng2, wLc, wSeqI, items, wEnumX, wCallO, wNever, noOwn, jN, jO, wipeS, jX, uE, atI0a, atI0b, atI0c, atI1b, atI1c, atI2c, wZipX, seqP, wRaise, wIsE, wVal, wMk, wPopAt, wPop, wAug, wTr, dTr, dLtX, dDivmod, wPick, pick, List.filterMap_cons, List.filterMap_nil]
    exact checkPair_ok x0 x1 y0 y1 d0 d1 hN
  simp only [wSeq, wNext, wIfS, wSetF, wSet, into, wSetIx, wRet, wRetN, wDrop, wB, wBin, wUn, wCB, wCons, wNil, wVar, wC, wIf, wAnd, wOr, DL.wNot, wAndV, wOrV, wNotV, wTup, wLst, wSl, wNoPart, wPart, wChain, wUnp, wgTup, wgCons, wgNil, wName, wIsi, wListRg, wRg1, wRg2, wTupRg, wPuts, puts, Rz.sd, wConsH, wAppend, wExtend, ownL, dI, dI0, dIx, dInt, dAbs, dLen, dMax2, dMin2, dSum, dSumX, dAll, dAny, dList, dTuple, dAdd, dNeg, dIsN, dNotN, PD.isN, dSl, look, looks, ok, Rz.pd, SD.pd, OD.pd, Rz.cold, Rz.cool, warm, pdsOf, frz, frzAll, leave, argOf, onceB, newBor, isBor, ty_non, ty_bl, ty_int, ty_str, ty_lst, ty_scr, ty_tup, ty_dct, isa, String.reduceBEq, jR, jS, jU, uD, jW, wYes, wCall, backS_0, backS_1, backS_2, backS_3, backS_4, backS_o0, backS_o1, backS_o2, backS_o3, dEq_int, dEq_str, dNeX_int, dNeX_str, jC, jD, jE, jF, List.replicate, Nat.reduceAdd, Nat.reduceSub, jA, jB, jG, jH, jI, jJ, jK, jL, jM, jP, jQ, true_or, or_true, true_and, and_true, jV, jT, jY, jZ, uC, uA, uB, decide_true, decide_false, wFor, wRng1, wRng2, wLc, wSeqI, items, wEnumX, wCallO, wNever, noOwn, jN, jO, wipeS, jX, uE, atI0a, atI0b, atI0c, atI1b, atI1c, atI2c, wZipX, seqP, wRaise, wIsE, wVal, wMk, wPopAt, wPop, wAug, wTr, dTr, dLtX, dDivmod, wPick, pick, List.filterMap_cons, List.filterMap_nil]
  refine isPossible_ok hs (sm_big (by omega)) ?_
  rw [poss_can hs x0 x1 y0 y1 d0]
  exact h
end DL

set_option Elab.async false
set_option linter.all false
set_option maxRecDepth 100000
set_option maxHeartbeats 4000000
set_option exponentiation.threshold 3000
namespace DL
open PySem L2
/-! ### pair_script, when the pair can be -/
def wSPairScript (CB : Fd) (R : Ws) (Ξ : Xp) : Ws := (wSeq (wIfS (wNot (wB (wCall 3 CB Ξ (wCons (wVar 0) (wCons (wVar 1) (wCons (wVar 2) wNil)))))) R wNext)
  (wSeq (wIfS (wB (wBin dEq (wBin dIx (wVar 0) (wC (.int 0))) (wC (.str "queue")))) (wRet (wCall 2 FSQScript noX (wCons (wVar 0) (wCons (wVar 2) wNil)))) wNext)
  (wSeq (wUnp (wVar 2) (wgTup 3 (wgCons (wName 3) (wgCons (wName 4) (wgCons (wName 5) wgNil)))))
  (wSeq (wIfS (wB (wBin dEq (wVar 5) (wC (.int 0)))) (wRet (wTup (wCons (wTup (wCons (wTup (wCons (wVar 3) (wCons (wVar 4) wNil))) wNil)) (wCons (wC (.int 0)) (wCons (wC (.int 1)) wNil))))) wNext)
  (wRet (wTup (wCons (wBin dAdd (wBin dAdd (wTup (wCons (wTup (wCons (wVar 3) wNil)) wNil)) (wBin dTm (wTup (wCons (wTup wNil) wNil)) (wBin (dI0 fun i j => .int (i - j)) (wVar 5) (wC (.int 1))))) (wTup (wCons (wTup (wCons (wVar 4) wNil)) wNil))) (wCons (wC (.int 0)) (wCons (wC (.int 1)) wNil)))))))))
def FSPairScript (CB : Fd) (R : Xp → Ws) : Fd := mkF (pin [0, 1, 2]) 6 (fun Ξ => wSPairScript CB (R Ξ) Ξ)
theorem pairScript_told {CB : Fd} {R : Xp → Ws} {a : Bool} {n size x y d : Int} {e : Nat} {Q : Rz → Sl → Prop} {Ξ : Xp} (he : (e : Int) = d) (d1 : d ≤ 400)
    (hc : ∀ Q' : Rz → Sl → Prop, Q' (.dat (.bl true)) [.dat (sv (tw a) n), .dat (.int size), .dat (.tup [.int x, .int y, .int d])] → CB [.dat (sv (tw a) n), .dat (.int size), .dat (.tup [.int x, .int y, .int d])] Q' Ξ)
    (h : Q (.dat (.tup [.tup ((prT x y e).map bsP), .int 0, .int 1])) [.dat (sv (tw a) n), .dat (.int size), .dat (.tup [.int x, .int y, .int d])]) :
    FSPairScript CB R [.dat (sv (tw a) n), .dat (.int size), .dat (.tup [.int x, .int y, .int d])] Q Ξ := by
  unfold FSPairScript mkF
  refine ⟨pinnedD (xs := [sv (tw a) n, .int size, .tup [.int x, .int y, .int d]]), ?_⟩
  have z0 : (0 : Nat) ≤ sizeLine := sz (by decide)
  have z1 : (1 : Nat) ≤ sizeLine := sz (by decide)
  have z2 : (2 : Nat) ≤ sizeLine := sz (by decide)
  have z3 : (3 : Nat) ≤ sizeLine := sz (by decide)
  unfold wSPairScript
  refine seq_to (ρ' := [.dat (sv (tw a) n), .dat (.int size), .dat (.tup [.int x, .int y, .int d]), .emp, .emp, .emp]) (fun N hN => ?_) ?_
  · simp only [wSeq, wNext, wIfS, wSetF, wSet, into, wSetIx, wRet, wRetN, wDrop, wB, wBin, wUn, wCB, wCons, wNil, wVar, wC, wIf, wAnd, wOr, DL.wNot, wAndV, wOrV, wNotV, wTup, wLst, wSl, wNoPart, wPart, wChain, wUnp, wgTup, wgCons, wgNil, wName, wIsi, wListRg, wRg1, wRg2, wTupRg, wPuts, puts, Rz.sd, wConsH, wAppend, wExtend, ownL, dI, dI0, dIx, dInt, dAbs, dLen, dMax2, dMin2, dSum, dSumX, dAll, dAny, dList, dTuple, dAdd, dNeg, dIsN, dNotN, PD.isN, dSl, look, looks, ok, Rz.pd, SD.pd, OD.pd, Rz.cold, Rz.cool, warm, pdsOf, frz, frzAll, leave, argOf, onceB, newBor, isBor, ty_non, ty_bl, ty_int, ty_str, ty_lst, ty_scr, ty_tup, ty_dct, isa, String.reduceBEq, jR, jS, jU, uD, jW, wYes, wCall, backS_0, backS_1, backS_2, backS_3, backS_4, backS_o0, backS_o1, backS_o2, backS_o3, dEq_int, dEq_str, dNeX_int, dNeX_str, jC, jD, jE, jF, List.replicate, Nat.reduceAdd, Nat.reduceSub, jA, jB, jG, jH, jI, jJ, jK, jL, jM, jP, jQ, true_or, or_true, true_and, and_true, jV, jT, jY, jZ, uC, uA, uB, decide_true, decide_false, wFor, wRng1, wRng2, wLc, wSeqI, items, wEnumX, wCallO, wNever, noOwn, jN, jO, wipeS, jX, uE, atI0a, atI0b, atI0c, atI1b, atI1c, atI2c, wZipX, seqP, wRaise, wIsE, wVal, wMk, wPopAt, wPop, wAug, wTr, dTr, dLtX, dDivmod, wPick, pick, List.filterMap_cons, List.filterMap_nil]
    refine hc _ ?_
    simp only [wSeq, wNext, wIfS, wSetF, wSet, into, wSetIx, wRet, wRetN, wDrop, wB, wBin, wUn, wCB, wCons, wNil, wVar, wC, wIf, wAnd, wOr, DL.wNot, wAndV, wOrV, wNotV, wTup, wLst, wSl, wNoPart, wPart, wChain, wUnp, wgTup, wgCons, wgNil, wName, wIsi, wListRg, wRg1, wRg2, wTupRg, wPuts, puts, Rz.sd, wConsH, wAppend, wExtend, ownL, dI, dI0, dIx, dInt, dAbs, dLen, dMax2, dMin2, dSum, dSumX, dAll, dAny, dList, dTuple, dAdd, dNeg, dIsN, dNotN, PD.isN, dSl, look, looks, ok, Rz.pd, SD.pd, OD.pd, Rz.cold, Rz.cool, warm, pdsOf, frz, frzAll, leave, argOf, onceB, newBor, isBor, ty_non, ty_bl, ty_int, ty_str, ty_lst, ty_scr, ty_tup, ty_dct, isa, String.reduceBEq, jR, jS, jU, uD, jW, wYes, wCall, backS_0, backS_1, backS_2, backS_3, backS_4, backS_o0, backS_o1, backS_o2, backS_o3, dEq_int, dEq_str, dNeX_int, dNeX_str, jC, jD, jE, jF, List.replicate, Nat.reduceAdd, Nat.reduceSub, jA, jB, jG, jH, jI, jJ, jK, jL, jM, jP, jQ, true_or, or_true, true_and, and_true, jV, jT, jY, jZ, uC, uA, uB, decide_true, decide_false, wFor, wRng1, wRng2, wLc, wSeqI, items, wEnumX, wCallO, wNever, noOwn, jN, jO, wipeS, jX, uE, atI0a, atI0b, atI0c, atI1b, atI1c, atI2c, wZipX, seqP, wRaise, wIsE, wVal, wMk, wPopAt, wPop, wAug, wTr, dTr, dLtX, dDivmod, wPick, pick, List.filterMap_cons, List.filterMap_nil]
    exact hN
  refine seq_to (ρ' := [.dat (sv (tw a) n), .dat (.int size), .dat (.tup [.int x, .int y, .int d]), .emp, .emp, .emp]) (fun N hN => ?_) ?_
  · simp only [sv, dEq_str (sok_tw _) sok_queue, twq, wSeq, wNext, wIfS, wSetF, wSet, into, wSetIx, wRet, wRetN, wDrop, wB, wBin, wUn, wCB, wCons, wNil, wVar, wC, wIf, wAnd, wOr, DL.wNot, wAndV, wOrV, wNotV, wTup, wLst, wSl, wNoPart, wPart, wChain, wUnp, wgTup, wgCons, wgNil, wName, wIsi, wListRg, wRg1, wRg2, wTupRg, wPuts, puts, Rz.sd, wConsH, wAppend, wExtend, ownL, dI, dI0, dIx, dInt, dAbs, dLen, dMax2, dMin2, dSum, dSumX, dAll, dAny, dList, dTuple, dAdd, dNeg, dIsN, dNotN, PD.isN, dSl, look, looks, ok, Rz.pd, SD.pd, OD.pd, Rz.cold, Rz.cool, warm, pdsOf, frz, frzAll, leave, argOf, onceB, newBor, isBor, ty_non, ty_bl, ty_int, ty_str, ty_lst, ty_scr, ty_tup, ty_dct, isa, String.reduceBEq, jR, jS, jU, uD, jW, wYes, wCall, backS_0, backS_1, backS_2, backS_3, backS_4, backS_o0, backS_o1, backS_o2, backS_o3, dEq_int, dEq_str, dNeX_int, dNeX_str, jC, jD, jE, jF, List.replicate, Nat.reduceAdd, Nat.reduceSub, jA, jB, jG, jH, jI, jJ, jK, jL, jM, jP, jQ, true_or, or_true, true_and, and_true, jV, jT, jY, jZ, uC, uA, uB, decide_true, decide_false, wFor, wRng1, wRng2, wLc, wSeqI, items, wEnumX, wCallO, wNever, noOwn, jN, jO, wipeS, jX, uE, atI0a, atI0b, atI0c, atI1b, atI1c, atI2c, wZipX, seqP, wRaise, wIsE, wVal, wMk, wPopAt, wPop, wAug, wTr, dTr, dLtX, dDivmod, wPick, pick, List.filterMap_cons, List.filterMap_nil]
    exact hN
  refine seq_to (ρ' := [.dat (sv (tw a) n), .dat (.int size), .dat (.tup [.int x, .int y, .int d]), .dat (.int x), .dat (.int y), .dat (.int d)]) (fun N hN => ?_) ?_
  · simp only [z3, wSeq, wNext, wIfS, wSetF, wSet, into, wSetIx, wRet, wRetN, wDrop, wB, wBin, wUn, wCB, wCons, wNil, wVar, wC, wIf, wAnd, wOr, DL.wNot, wAndV, wOrV, wNotV, wTup, wLst, wSl, wNoPart, wPart, wChain, wUnp, wgTup, wgCons, wgNil, wName, wIsi, wListRg, wRg1, wRg2, wTupRg, wPuts, puts, Rz.sd, wConsH, wAppend, wExtend, ownL, dI, dI0, dIx, dInt, dAbs, dLen, dMax2, dMin2, dSum, dSumX, dAll, dAny, dList, dTuple, dAdd, dNeg, dIsN, dNotN, PD.isN, dSl, look, looks, ok, Rz.pd, SD.pd, OD.pd, Rz.cold, Rz.cool, warm, pdsOf, frz, frzAll, leave, argOf, onceB, newBor, isBor, ty_non, ty_bl, ty_int, ty_str, ty_lst, ty_scr, ty_tup, ty_dct, isa, String.reduceBEq, jR, jS, jU, uD, jW, wYes, wCall, backS_0, backS_1, backS_2, backS_3, backS_4, backS_o0, backS_o1, backS_o2, backS_o3, dEq_int, dEq_str, dNeX_int, dNeX_str, jC, jD, jE, jF, List.replicate, Nat.reduceAdd, Nat.reduceSub, jA, jB, jG, jH, jI, jJ, jK, jL, jM, jP, jQ, true_or, or_true, true_and, and_true, jV, jT, jY, jZ, uC, uA, uB, decide_true, decide_false, wFor, wRng1, wRng2, wLc, wSeqI, items, wEnumX, wCallO, wNever, noOwn, jN, jO, wipeS, jX, uE, atI0a, atI0b, atI0c, atI1b, atI1c, atI2c, wZipX, seqP, wRaise, wIsE, wVal, wMk, wPopAt, wPop, wAug, wTr, dTr, dLtX, dDivmod, wPick, pick, List.filterMap_cons, List.filterMap_nil]
    exact hN
  cases e with
  | zero =>
    have e0 : d = 0 := by omega
    have c : decide (d = 0) = true := decide_eq_true e0
    simp only [c, z1, z2, z3, wSeq, wNext, wIfS, wSetF, wSet, into, wSetIx, wRet, wRetN, wDrop, wB, wBin, wUn, wCB, wCons, wNil, wVar, wC, wIf, wAnd, wOr, DL.wNot, wAndV, wOrV, wNotV, wTup, wLst, wSl, wNoPart, wPart, wChain, wUnp, wgTup, wgCons, wgNil, wName, wIsi, wListRg, wRg1, wRg2, wTupRg, wPuts, puts, Rz.sd, wConsH, wAppend, wExtend, ownL, dI, dI0, dIx, dInt, dAbs, dLen, dMax2, dMin2, dSum, dSumX, dAll, dAny, dList, dTuple, dAdd, dNeg, dIsN, dNotN, PD.isN, dSl, look, looks, ok, Rz.pd, SD.pd, OD.pd, Rz.cold, Rz.cool, warm, pdsOf, frz, frzAll, leave, argOf, onceB, newBor, isBor, ty_non, ty_bl, ty_int, ty_str, ty_lst, ty_scr, ty_tup, ty_dct, isa, String.reduceBEq, jR, jS, jU, uD, jW, wYes, wCall, backS_0, backS_1, backS_2, backS_3, backS_4, backS_o0, backS_o1, backS_o2, backS_o3, dEq_int, dEq_str, dNeX_int, dNeX_str, jC, jD, jE, jF, List.replicate, Nat.reduceAdd, Nat.reduceSub, jA, jB, jG, jH, jI, jJ, jK, jL, jM, jP, jQ, true_or, or_true, true_and, and_true, jV, jT, jY, jZ, uC, uA, uB, decide_true, decide_false, wFor, wRng1, wRng2, wLc, wSeqI, items, wEnumX, wCallO, wNever, noOwn, jN, jO, wipeS, jX, uE, atI0a, atI0b, atI0c, atI1b, atI1c, atI2c, wZipX, seqP, wRaise, wIsE, wVal, wMk, wPopAt, wPop, wAug, wTr, dTr, dLtX, dDivmod, wPick, pick, List.filterMap_cons, List.filterMap_nil]
    exact h
  | succ k =>
    have c : decide (d = 0) = false := decide_eq_false (by omega)
    have ek : d - 1 = (k : Int) := by omega
    simp only [c, ek, z0, z1, z2, z3, wSeq, wNext, wIfS, wSetF, wSet, into, wSetIx, wRet, wRetN, wDrop, wB, wBin, wUn, wCB, wCons, wNil, wVar, wC, wIf, wAnd, wOr, DL.wNot, wAndV, wOrV, wNotV, wTup, wLst, wSl, wNoPart, wPart, wChain, wUnp, wgTup, wgCons, wgNil, wName, wIsi, wListRg, wRg1, wRg2, wTupRg, wPuts, puts, Rz.sd, wConsH, wAppend, wExtend, ownL, dI, dI0, dIx, dInt, dAbs, dLen, dMax2, dMin2, dSum, dSumX, dAll, dAny, dList, dTuple, dAdd, dNeg, dIsN, dNotN, PD.isN, dSl, look, looks, ok, Rz.pd, SD.pd, OD.pd, Rz.cold, Rz.cool, warm, pdsOf, frz, frzAll, leave, argOf, onceB, newBor, isBor, ty_non, ty_bl, ty_int, ty_str, ty_lst, ty_scr, ty_tup, ty_dct, isa, String.reduceBEq, jR, jS, jU, uD, jW, wYes, wCall, backS_0, backS_1, backS_2, backS_3, backS_4, backS_o0, backS_o1, backS_o2, backS_o3, dEq_int, dEq_str, dNeX_int, dNeX_str, jC, jD, jE, jF, List.replicate, Nat.reduceAdd, Nat.reduceSub, jA, jB, jG, jH, jI, jJ, jK, jL, jM, jP, jQ, true_or, or_true, true_and, and_true, jV, jT, jY, jZ, uC, uA, uB, decide_true, decide_false, wFor, wRng1, wRng2, wLc, wSeqI, items, wEnumX, wCallO, wNever, noOwn, jN, jO, wipeS, jX, uE, atI0a, atI0b, atI0c, atI1b, atI1c, atI2c, wZipX, seqP, wRaise, wIsE, wVal, wMk, wPopAt, wPop, wAug, wTr, dTr, dLtX, dDivmod, wPick, pick, List.filterMap_cons, List.filterMap_nil]
    refine ⟨by simp, ⟨by omega, by omega⟩, by simp, ?_⟩
    rw [Int.toNat_natCast, List.flatten_replicate_singleton]
    have eq : (prT x y (k + 1)).map bsP = [.tup [.int x]] ++ List.replicate k (.tup []) ++ [.tup [.int y]] := by
      show bsP [x] :: (List.replicate k [] ++ [[y]]).map bsP = _
      rw [List.map_append, List.map_replicate]
      rfl
    rw [eq] at h
    simp only [wSeq, wNext, wIfS, wSetF, wSet, into, wSetIx, wRet, wRetN, wDrop, wB, wBin, wUn, wCB, wCons, wNil, wVar, wC, wIf, wAnd, wOr, DL.wNot, wAndV, wOrV, wNotV, wTup, wLst, wSl, wNoPart, wPart, wChain, wUnp, wgTup, wgCons, wgNil, wName, wIsi, wListRg, wRg1, wRg2, wTupRg, wPuts, puts, Rz.sd, wConsH, wAppend, wExtend, ownL, dI, dI0, dIx, dInt, dAbs, dLen, dMax2, dMin2, dSum, dSumX, dAll, dAny, dList, dTuple, dAdd, dNeg, dIsN, dNotN, PD.isN, dSl, look, looks, ok, Rz.pd, SD.pd, OD.pd, Rz.cold, Rz.cool, warm, pdsOf, frz, frzAll, leave, argOf, onceB, newBor, isBor, ty_non, ty_bl, ty_int, ty_str, ty_lst, ty_scr, ty_tup, ty_dct, isa, String.reduceBEq, jR, jS, jU, uD, jW, wYes, wCall, backS_0, backS_1, backS_2, backS_3, backS_4, backS_o0, backS_o1, backS_o2, backS_o3, dEq_int, dEq_str, dNeX_int, dNeX_str, jC, jD, jE, jF, List.replicate, Nat.reduceAdd, Nat.reduceSub, jA, jB, jG, jH, jI, jJ, jK, jL, jM, jP, jQ, true_or, or_true, true_and, and_true, jV, jT, jY, jZ, uC, uA, uB, decide_true, decide_false, wFor, wRng1, wRng2, wLc, wSeqI, items, wEnumX, wCallO, wNever, noOwn, jN, jO, wipeS, jX, uE, atI0a, atI0b, atI0c, atI1b, atI1c, atI2c, wZipX, seqP, wRaise, wIsE, wVal, wMk, wPopAt, wPop, wAug, wTr, dTr, dLtX, dDivmod, wPick, pick, List.filterMap_cons, List.filterMap_nil]
    refine ⟨sz ?_, sz ?_, h⟩
    · simp only [List.length_cons, List.length_nil, List.length_replicate]; omega
    · simp only [List.length_append, List.length_cons, List.length_nil, List.length_replicate]; omega
theorem pairScript_queue {CB : Fd} {R : Xp → Ws} {n size x y d : Int} {F e : Nat} {Q : Rz → Sl → Prop} {Ξ : Xp} (n1 : 1 ≤ n) (n4 : n ≤ 4) (hx : x.natAbs ≤ 1000) (hy : y.natAbs ≤ 1000) (he : (e : Int) = d) (d1 : d ≤ 400) (hF : (F : Int) = firstD n x y d) (hF2 : F ≤ 10000)
    (hc : ∀ Q' : Rz → Sl → Prop, Q' (.dat (.bl true)) [.dat (sv "queue" n), .dat (.int size), .dat (.tup [.int x, .int y, .int d])] → CB [.dat (sv "queue" n), .dat (.int size), .dat (.tup [.int x, .int y, .int d])] Q' Ξ)
    (h : Q (.dat (.tup [.tup ((cntQ n x y d F e).map .int), .int (oneQ n x y d F F x), .int (oneQ n x y d F (F + e) y)])) [.dat (sv "queue" n), .dat (.int size), .dat (.tup [.int x, .int y, .int d])]) :
    FSPairScript CB R [.dat (sv "queue" n), .dat (.int size), .dat (.tup [.int x, .int y, .int d])] Q Ξ := by
  unfold FSPairScript mkF
  refine ⟨pinnedD (xs := [sv "queue" n, .int size, .tup [.int x, .int y, .int d]]), ?_⟩
  unfold wSPairScript
  refine seq_to (ρ' := [.dat (sv "queue" n), .dat (.int size), .dat (.tup [.int x, .int y, .int d]), .emp, .emp, .emp]) (fun N hN => ?_) ?_
  · simp only [wSeq, wNext, wIfS, wSetF, wSet, into, wSetIx, wRet, wRetN, wDrop, wB, wBin, wUn, wCB, wCons, wNil, wVar, wC, wIf, wAnd, wOr, DL.wNot, wAndV, wOrV, wNotV, wTup, wLst, wSl, wNoPart, wPart, wChain, wUnp, wgTup, wgCons, wgNil, wName, wIsi, wListRg, wRg1, wRg2, wTupRg, wPuts, puts, Rz.sd, wConsH, wAppend, wExtend, ownL, dI, dI0, dIx, dInt, dAbs, dLen, dMax2, dMin2, dSum, dSumX, dAll, dAny, dList, dTuple, dAdd, dNeg, dIsN, dNotN, PD.isN, dSl, look, looks, ok, Rz.pd, SD.pd, OD.pd, Rz.cold, Rz.cool, warm, pdsOf, frz, frzAll, leave, argOf, onceB, newBor, isBor, ty_non, ty_bl, ty_int, ty_str, ty_lst, ty_scr, ty_tup, ty_dct, isa, String.reduceBEq, jR, jS, jU, uD, jW, wYes, wCall, backS_0, backS_1, backS_2, backS_3, backS_4, backS_o0, backS_o1, backS_o2, backS_o3, dEq_int, dEq_str, dNeX_int, dNeX_str, jC, jD, jE, jF, List.replicate, Nat.reduceAdd, Nat.reduceSub, jA, jB, jG, jH, jI, jJ, jK, jL, jM, jP, jQ, true_or, or_true, true_and, and_true, jV, jT, jY, jZ, uC, uA, uB, decide_true, decide_false, wFor, wRng1, wRng2, wLc, wSeqI, items, wEnumX, wCallO, wNever, noOwn, jN, jO, wipeS, jX, uE, atI0a, atI0b, atI0c, atI1b, atI1c, atI2c, wZipX, seqP, wRaise, wIsE, wVal, wMk, wPopAt, wPop, wAug, wTr, dTr, dLtX, dDivmod, wPick, pick, List.filterMap_cons, List.filterMap_nil]
    refine hc _ ?_
    simp only [wSeq, wNext, wIfS, wSetF, wSet, into, wSetIx, wRet, wRetN, wDrop, wB, wBin, wUn, wCB, wCons, wNil, wVar, wC, wIf, wAnd, wOr, DL.wNot, wAndV, wOrV, wNotV, wTup, wLst, wSl, wNoPart, wPart, wChain, wUnp, wgTup, wgCons, wgNil, wName, wIsi, wListRg, wRg1, wRg2, wTupRg, wPuts, puts, Rz.sd, wConsH, wAppend, wExtend, ownL, dI, dI0, dIx, dInt, dAbs, dLen, dMax2, dMin2, dSum, dSumX, dAll, dAny, dList, dTuple, dAdd, dNeg, dIsN, dNotN, PD.isN, dSl, look, looks, ok, Rz.pd, SD.pd, OD.pd, Rz.cold, Rz.cool, warm, pdsOf, frz, frzAll, leave, argOf, onceB, newBor, isBor, ty_non, ty_bl, ty_int, ty_str, ty_lst, ty_scr, ty_tup, ty_dct, isa, String.reduceBEq, jR, jS, jU, uD, jW, wYes, wCall, backS_0, backS_1, backS_2, backS_3, backS_4, backS_o0, backS_o1, backS_o2, backS_o3, dEq_int, dEq_str, dNeX_int, dNeX_str, jC, jD, jE, jF, List.replicate, Nat.reduceAdd, Nat.reduceSub, jA, jB, jG, jH, jI, jJ, jK, jL, jM, jP, jQ, true_or, or_true, true_and, and_true, jV, jT, jY, jZ, uC, uA, uB, decide_true, decide_false, wFor, wRng1, wRng2, wLc, wSeqI, items, wEnumX, wCallO, wNever, noOwn, jN, jO, wipeS, jX, uE, atI0a, atI0b, atI0c, atI1b, atI1c, atI2c, wZipX, seqP, wRaise, wIsE, wVal, wMk, wPopAt, wPop, wAug, wTr, dTr, dLtX, dDivmod, wPick, pick, List.filterMap_cons, List.filterMap_nil]
    exact hN
  have go : ∀ Q' : Rz → Sl → Prop, Q' (.dat (.tup [.tup ((cntQ n x y d F e).map .int), .int (oneQ n x y d F F x), .int (oneQ n x y d F (F + e) y)])) [.dat (sv "queue" n), .dat (pr3 x y d)] → FSQScript [.dat (sv "queue" n), .dat (pr3 x y d)] Q' noX := fun Q' hQ => queueScript_ok n1 n4 hx hy he (by omega) hF hF2 hQ
  unfold pr3 sv at go
  simp only [sv, dEq_str sok_queue sok_queue, qq, wSeq, wNext, wIfS, wSetF, wSet, into, wSetIx, wRet, wRetN, wDrop, wB, wBin, wUn, wCB, wCons, wNil, wVar, wC, wIf, wAnd, wOr, DL.wNot, wAndV, wOrV, wNotV, wTup, wLst, wSl, wNoPart, wPart, wChain, wUnp, wgTup, wgCons, wgNil, wName, wIsi, wListRg, wRg1, wRg2, wTupRg, wPuts, puts, Rz.sd, wConsH, wAppend, wExtend, ownL, dI, dI0, dIx, dInt, dAbs, dLen, dMax2, dMin2, dSum, dSumX, dAll, dAny, dList, dTuple, dAdd, dNeg, dIsN, dNotN, PD.isN, dSl, look, looks, ok, Rz.pd, SD.pd, OD.pd, Rz.cold, Rz.cool, warm, pdsOf, frz, frzAll, leave, argOf, onceB, newBor, isBor, ty_non, ty_bl, ty_int, ty_str, ty_lst, ty_scr, ty_tup, ty_dct, isa, String.reduceBEq, jR, jS, jU, uD, jW, wYes, wCall, backS_0, backS_1, backS_2, backS_3, backS_4, backS_o0, backS_o1, backS_o2, backS_o3, dEq_int, dEq_str, dNeX_int, dNeX_str, jC, jD, jE, jF, List.replicate, Nat.reduceAdd, Nat.reduceSub, jA, jB, jG, jH, jI, jJ, jK, jL, jM, jP, jQ, true_or, or_true, true_and, and_true, jV, jT, jY, jZ, uC, uA, uB, decide_true, decide_false, wFor, wRng1, wRng2, wLc, wSeqI, items, wEnumX, wCallO, wNever, noOwn, jN, jO, wipeS, jX, uE, atI0a, atI0b, atI0c, atI1b, atI1c, atI2c, wZipX, seqP, wRaise, wIsE, wVal, wMk, wPopAt, wPop, wAug, wTr, dTr, dLtX, dDivmod, wPick, pick, List.filterMap_cons, List.filterMap_nil]
  refine go _ ?_
  exact h
end DL

set_option Elab.async false
set_option linter.all false
set_option maxRecDepth 100000
set_option maxHeartbeats 4000000
set_option exponentiation.threshold 3000
namespace Lk
open PySem L2 DL
abbrev TK := FTak5 98257 431 10009 89 173
abbrev OFF := FOf5 98257 431 10009 89 173
theorem drw : Drw TK OFF := drw5 (by unfold AB4; decide) (by decide) (by decide)
theorem e_take {cl : Nat → Addr} : F__law_take cl = TK := rfl
theorem e_service {cl : Nat → Addr} : F__law_service cl = FLawService OFF := rfl
theorem e_pair {cl : Nat → Addr} : F__law_pair cl = FLawPair TK OFF := rfl
theorem e_lcan {cl : Nat → Addr} : F__law_can_be cl = FLawCanBe := rfl
theorem e_stand {cl : Nat → Addr} : F__law_can_stand cl = FLawCanStand := rfl
theorem e_packets {cl : Nat → Addr} : F__law_packets cl = FLawPackets := rfl
theorem e_values {cl : Nat → Addr} : F__law_slot_values cl = FLawSlotValues := rfl
theorem e_few {cl : Nat → Addr} : F__law_fewest_slots cl = FLawFewest := rfl
theorem e_pairs {cl : Nat → Addr} : F__law_pairs_in cl = FLawPairsIn := rfl
theorem e_all {cl : Nat → Addr} : F__law_all_scripts cl = FLawAllScripts := by
  unfold F__law_all_scripts w__law_all_scripts
  rw [e_stand, e_packets, e_values]; rfl
theorem e_shorter {cl : Nat → Addr} : F__law_has_shorter cl = FLawHasShorter := by
  unfold F__law_has_shorter w__law_has_shorter
  rw [e_all, e_packets, e_values, e_few, e_pairs]; rfl
theorem e_wrong {cl : Nat → Addr} : F__law_first_wrong cl = FLawFirstWrong := by
  unfold F__law_first_wrong w__law_first_wrong
  rw [e_stand]; rfl
theorem e_script {cl : Nat → Addr} : F__law_is_script cl = FLawIsScript := by
  unfold F__law_is_script w__law_is_script
  rw [e_wrong]; rfl
theorem e_shows {cl : Nat → Addr} : F__law_shows cl = FLawShows := by
  unfold F__law_shows w__law_shows
  rw [e_script, e_packets, e_few]; rfl
abbrev CB (cl : Nat → Addr) : Fd := FSCanBe (FCheckService fun Ξ => wRaise (cl 0) Ξ (wCons (wVar 0) wNil)) (FS_check_size fun Ξ => wRaise (cl 1) Ξ (wCons (wVar 0) wNil)) (FS_check_pair (fun Ξ => wRaise (cl 2) Ξ (wCons (wVar 1) wNil)) fun Ξ => wRaise (cl 2) Ξ (wCons (wVar 1) wNil))
theorem e_can {cl : Nat → Addr} : F_can_be cl = CB cl := rfl
theorem e_qscript {cl : Nat → Addr} : F_queue_script cl = FSQScript := rfl
theorem e_pscript {cl : Nat → Addr} : F_pair_script cl = FSPairScript (CB cl) fun Ξ => wRaise (cl 3) Ξ (wCons (wVar 2) wNil) := by
  unfold F_pair_script w_pair_script
  rw [e_can, e_qscript]; rfl
theorem heard_err {cl : Nat → Addr} {L : Lm1} {Q : Rz → Prop} {j : Nat} {d : PD} (hj : j < 5) (h : ∀ (Qr : Rz → Prop) (Ξ : Xp), Ξ (cl j) d → L Qr Ξ) (q : Q (.dat (.tup [.err (cl j) d, .non]))) : F__law_heard cl L Q := fun fa gp => by
  have z2 : (2 : Nat) ≤ sizeLine := sz (by decide)
  simp only [w__law_heard, wTry, wAct, wRet, wVar, wC, wTup, wCons, wNil, List.length_cons, List.length_nil, Nat.reduceAdd, Nat.reduceSub, List.replicate, hide, List.map_cons, List.map_nil, SD.veil, List.getElem?_cons_zero, List.getElem?_cons_succ, List.set_cons_zero, List.set_cons_succ, true_and]
  refine ⟨.inl rfl, h _ _ ⟨j, hj, rfl, ?_⟩⟩
  simp only [z2, frz, frzAll, ok, Rz.cold, Rz.cool, warm, true_or, true_and, Rz.pd, Rz.free, List.getElem?_cons_zero, List.getElem?_cons_succ, List.length_cons, List.length_nil, Nat.reduceAdd]
  exact q
theorem heard_ok {cl : Nat → Addr} {L : Lm1} {Q : Rz → Prop} {d : PD} (h : ∀ (Qr : Rz → Prop) (Ξ : Xp), Qr (.dat d) → L Qr Ξ) (q : Q (.dat (.tup [.non, d]))) : F__law_heard cl L Q := fun fa gp => by
  have z2 : (2 : Nat) ≤ sizeLine := sz (by decide)
  simp only [w__law_heard, wTry, wAct, wRet, wVar, wC, wTup, wCons, wNil, List.length_cons, List.length_nil, Nat.reduceAdd, Nat.reduceSub, List.replicate, hide, List.map_cons, List.map_nil, SD.veil, List.getElem?_cons_zero, List.getElem?_cons_succ, List.set_cons_zero, List.set_cons_succ, true_and]
  refine ⟨.inl rfl, h _ _ ?_⟩
  simp only [z2, frz, frzAll, ok, Rz.cold, Rz.cool, warm, true_or, true_and, Rz.pd, Rz.free, List.getElem?_cons_zero, List.getElem?_cons_succ, List.length_cons, List.length_nil, Nat.reduceAdd]
  exact q
end Lk

set_option Elab.async false
set_option linter.all false
set_option maxRecDepth 100000
set_option maxHeartbeats 4000000
set_option exponentiation.threshold 3000
namespace Lk
open PySem L2 DL
theorem few_len {n size x y d : Int} (h : PairQ n size x y d) : fewD "queue" n x y d = firstD n x y d + d + 1 := by
  unfold fewD firstD
  by_cases c : n = 1
  · rw [if_neg (fun z => z.2.2 c), if_pos c]; omega
  · have := h.g1
    rw [if_pos ⟨rfl, fun z => by omega, c⟩, if_neg c, few_first]
/-- what pair_script tells, and that it is right -/
theorem told_right {cl : Nat → Addr} {o : Option Bool} {n size x y d : Int} (n1 : 1 ≤ n) (n4 : n ≤ 4) (s1 : 1 ≤ size) (s4 : size ≤ 40) (x0 : 0 ≤ x) (x1 : x ≤ size) (y0 : 0 ≤ y) (y1 : y ≤ size) (d0 : 0 ≤ d) (d1 : d ≤ 60) (hc : canB (wd o) n size x y d = true) :
    ∃ (vs : List PD) (one other : Int), (∀ (Q : Rz → Sl → Prop) (Ξ : Xp), Q (.dat (.tup [.tup vs, .int one, .int other])) [.dat (sv (wd o) n), .dat (.int size), .dat (.tup [.int x, .int y, .int d])] → F_pair_script cl [.dat (sv (wd o) n), .dat (.int size), .dat (.tup [.int x, .int y, .int d])] Q Ξ) ∧
      ∀ (Q : Rz → Sl → Prop) (Ξ : Xp), Q (.dat (.bl true)) [.dat (sv (wd o) n), .dat (.int size), .dat (.tup [.int x, .int y, .int d]), .dat (.tup [.tup vs, .int one, .int other])] → FLawShows [.dat (sv (wd o) n), .dat (.int size), .dat (.tup [.int x, .int y, .int d]), .dat (.tup [.tup vs, .int one, .int other])] Q Ξ := by
  have hsv : Sv (wd o) n := ⟨by rcases o with _ | _ | _ <;> first | exact .inl rfl | exact .inr (.inl rfl) | exact .inr (.inr rfl), n1, n4⟩
  have hcb : ∀ (Ξ : Xp) (Q' : Rz → Sl → Prop), Q' (.dat (.bl true)) [.dat (sv (wd o) n), .dat (.int size), .dat (.tup [.int x, .int y, .int d])] → CB cl [.dat (sv (wd o) n), .dat (.int size), .dat (.tup [.int x, .int y, .int d])] Q' Ξ := fun Ξ Q' q => by
    refine canBe_ok hsv s1 (by omega) x0 x1 y0 y1 d0 (by omega) ?_
    rw [hc]; exact q
  cases o with
  | none =>
    have hp := pairQ_of n1 x0 y0 d0 hc
    obtain ⟨f0, _, f1⟩ := first_ok hp
    obtain ⟨F, hF⟩ := Int.eq_ofNat_of_zero_le f0
    obtain ⟨e, he⟩ := Int.eq_ofNat_of_zero_le d0
    have sh := shown_ok hp hF.symm he.symm
    have len : (cntQ n x y d F e).length = F + e + 1 := by unfold cntQ; rw [List.length_map, List.length_range']
    refine ⟨(cntQ n x y d F e).map .int, oneQ n x y d F F x, oneQ n x y d F (F + e) y, fun Q Ξ q => ?_, fun Q Ξ q => ?_⟩
    · rw [e_pscript]
      exact pairScript_queue n1 n4 (by omega) (by omega) he.symm (by omega) hF.symm (by omega) (hcb Ξ) q
    · have hl := few_len hp
      refine lawShows_ok (s1 := (F : Int)) (s2 := (F : Int) + d) n1 n4 (by omega) (by omega) (by omega) (by omega) (by omega) (Scr.q _ sh.fit) (by rw [List.length_map, len]; omega) ?_ sh.one.1 sh.less sh.one.2 sh.other.2 (by omega) q
      rw [List.length_map, len]
      show _ = fewD "queue" n x y d
      rw [hl, hF]
      omega
  | some a =>
    obtain ⟨e, he⟩ := Int.eq_ofNat_of_zero_le d0
    have hc2 : canB (tw a) n size x y d = true := hc
    rw [can_out x1 y1] at hc2
    have nz : ¬ (n = 1 ∧ d = 0) := fun z => by rw [if_pos z] at hc2; cases hc2
    rw [if_neg nz] at hc2
    have hgap : if a = true then (e : Int) + y - x ≠ 0 else 1 ≤ (e : Int) + y - x := by
      have na : ("order" : Str) ≠ "any" := by decide +kernel
      cases a with
      | true =>
        have hc2 : (if ("any" : Str) = "any" then decide (d + y - x ≠ 0) else _) = true := hc2
        rw [if_pos rfl, decide_eq_true_eq] at hc2
        rw [if_pos rfl]; omega
      | false =>
        have hc2 : (if ("order" : Str) = "any" then decide (d + y - x ≠ 0) else if ("order" : Str) = "order" then decide (1 ≤ d + y - x) else _) = true := hc2
        rw [if_neg na, if_pos rfl, decide_eq_true_eq] at hc2
        rw [if_neg (by decide)]; omega
    have hfit := prT_fit (a := a) (k := e) n1 (fun z => by omega) x0 y0 x1 y1 hgap
    refine ⟨(prT x y e).map rowP, 0, 1, fun Q Ξ q => ?_, fun Q Ξ q => ?_⟩
    · rw [e_pscript]
      exact pairScript_told he.symm (by omega) (hcb Ξ) q
    · refine lawShows_ok (o := some a) (s1 := 0) (s2 := (e : Int)) n1 n4 (by omega) (by omega) (by omega) (by omega) (by omega) (Scr.t a _ hfit) (by rw [List.length_map, prT_len]; omega) ?_ (by omega) (by omega) ?_ ?_ (by omega) q
      · rw [List.length_map, prT_len]
        unfold fewD
        have nq : ¬ (wd (some a) = "queue") := fun z => nomatch wd_inj (o' := none) z
        rw [if_neg (fun z => nq z.1)]; omega
      · rw [prT_packets]; rfl
      · rw [prT_packets]; rfl
end Lk

set_option Elab.async false
set_option linter.all false
set_option maxRecDepth 100000
set_option maxHeartbeats 4000000
set_option exponentiation.threshold 3000
namespace Lk
open PySem L2 DL
abbrev RR7 (s a1 a2 a3 a4 a5 a6 : SD) : Sl := [s, a1, a2, a3, a4, a5, a6]
theorem law_right_ok {cl : Nat → Addr} : RightOk (F__law_right cl) := by
  intro s Q hp h
  obtain ⟨o, rfl⟩ := hp.own
  unfold F__law_right mkF
  refine ⟨pinned1, ?_⟩
  unfold w__law_right
  have z2 : (2 : Nat) ≤ sizeLine := sz (by decide)
  refine seq_by (fun ρ => ∃ s' a1 a2 a3 a4 a5 a6, Pot 20000 s' ∧ ρ = RR7 s' a1 a2 a3 a4 a5 a6) (fun N hN => ?_) (fun ρ hρ => ?_)
  · have e3 : (8 : Int).toNat = 8 := rfl
    simp only [e3, wFor, wRng1, wC, wCons, wNil, look, looks, pdsOf, ok, Rz.pd, SD.pd, Rz.cold, Rz.cool, warm, true_or, true_and, List.length_cons, List.length_nil, Nat.reduceAdd, Nat.reduceSub, List.replicate, List.cons_append, List.nil_append]
    refine ⟨⟨by decide, by decide⟩, ?_⟩
    refine forL_upto (fun k ρ => ∃ s' a1 a2 a3 a4 a5 a6, Pot (10 * k) s' ∧ ρ = RR7 s' a1 a2 a3 a4 a5 a6) _ 0 _ ⟨_, _, _, _, _, _, _, by simpa using hp, rfl⟩ (fun j d ρ N2 hj hI hN2 => ?_) (fun ρ hI => ?_)
    · obtain ⟨s', a1, a2, a3, a4, a5, a6, hp, rfl⟩ := hI
      obtain ⟨rfl, hjl⟩ := rg_at hj
      rw [Nat.zero_add] at hp hN2
      obtain ⟨o, rfl⟩ := hp.own
      simp only [wName, RR7, List.set_cons_zero, List.set_cons_succ]
      -- the service
      refine seq_by (fun ρ => ∃ s' o n, Pot (10 * (j : Int) + 2) s' ∧ 1 ≤ n ∧ n ≤ 4 ∧ ρ = RR7 s' (.dat (.int (j : Int))) (.dat (sv (wd o) n)) a3 a4 a5 a6) (fun N hN => ?_) (fun ρ hρ => ?_)
      · simp only [e_service, RR7, wSeq, wNext, wIfS, wSetF, wSet, into, wSetIx, wRet, wRetN, wDrop, wB, wBin, wUn, wCB, wCons, wNil, wVar, wC, wIf, wAnd, wOr, DL.wNot, wAndV, wOrV, wNotV, wTup, wLst, wSl, wNoPart, wPart, wChain, wUnp, wgTup, wgCons, wgNil, wName, wIsi, wListRg, wRg1, wRg2, wTupRg, wPuts, puts, Rz.sd, wConsH, wAppend, wExtend, ownL, dI, dI0, dIx, dInt, dAbs, dLen, dMax2, dMin2, dSum, dSumX, dAll, dAny, dList, dTuple, dAdd, dNeg, dIsN, dNotN, PD.isN, dSl, look, looks, ok, Rz.pd, SD.pd, OD.pd, Rz.cold, Rz.cool, warm, pdsOf, frz, frzAll, leave, argOf, onceB, newBor, isBor, ty_non, ty_bl, ty_int, ty_str, ty_lst, ty_scr, ty_tup, ty_dct, isa, String.reduceBEq, jR, jS, jU, uD, jW, wYes, wCall, backS_0, backS_1, backS_2, backS_3, backS_4, backS_o0, backS_o1, backS_o2, backS_o3, dEq_int, dEq_str, dNeX_int, dNeX_str, jC, jD, jE, jF, List.replicate, Nat.reduceAdd, Nat.reduceSub, jA, jB, jG, jH, jI, jJ, jK, jL, jM, jP, jQ, true_or, or_true, true_and, and_true, jV, jT, jY, jZ, uC, uA, uB, decide_true, decide_false, wFor, wRng1, wRng2, wLc, wSeqI, items, wEnumX, wCallO, wNever, noOwn, jN, jO, wipeS, jX, uE, atI0a, atI0b, atI0c, atI1b, atI1c, atI2c, wZipX, seqP, wRaise, wIsE, wVal, wMk, wPopAt, wPop, wAug, wTr, dTr, dLtX, dDivmod, wPick, pick, List.filterMap_cons, List.filterMap_nil]
        refine lawService_ok drw hp (by omega) fun w n s' hw n1 n4 hp2 => ?_
        obtain ⟨o2, rfl⟩ := hp2.own
        obtain ⟨q, rfl⟩ := wd_of hw
        simp only [backS_h0, wSeq, wNext, wIfS, wSetF, wSet, into, wSetIx, wRet, wRetN, wDrop, wB, wBin, wUn, wCB, wCons, wNil, wVar, wC, wIf, wAnd, wOr, DL.wNot, wAndV, wOrV, wNotV, wTup, wLst, wSl, wNoPart, wPart, wChain, wUnp, wgTup, wgCons, wgNil, wName, wIsi, wListRg, wRg1, wRg2, wTupRg, wPuts, puts, Rz.sd, wConsH, wAppend, wExtend, ownL, dI, dI0, dIx, dInt, dAbs, dLen, dMax2, dMin2, dSum, dSumX, dAll, dAny, dList, dTuple, dAdd, dNeg, dIsN, dNotN, PD.isN, dSl, look, looks, ok, Rz.pd, SD.pd, OD.pd, Rz.cold, Rz.cool, warm, pdsOf, frz, frzAll, leave, argOf, onceB, newBor, isBor, ty_non, ty_bl, ty_int, ty_str, ty_lst, ty_scr, ty_tup, ty_dct, isa, String.reduceBEq, jR, jS, jU, uD, jW, wYes, wCall, backS_0, backS_1, backS_2, backS_3, backS_4, backS_o0, backS_o1, backS_o2, backS_o3, dEq_int, dEq_str, dNeX_int, dNeX_str, jC, jD, jE, jF, List.replicate, Nat.reduceAdd, Nat.reduceSub, jA, jB, jG, jH, jI, jJ, jK, jL, jM, jP, jQ, true_or, or_true, true_and, and_true, jV, jT, jY, jZ, uC, uA, uB, decide_true, decide_false, wFor, wRng1, wRng2, wLc, wSeqI, items, wEnumX, wCallO, wNever, noOwn, jN, jO, wipeS, jX, uE, atI0a, atI0b, atI0c, atI1b, atI1c, atI2c, wZipX, seqP, wRaise, wIsE, wVal, wMk, wPopAt, wPop, wAug, wTr, dTr, dLtX, dDivmod, wPick, pick, List.filterMap_cons, List.filterMap_nil]
        exact hN _ ⟨_, q, n, hp2.mono (by omega), n1, n4, rfl⟩
      obtain ⟨s', q, n, hp, n1, n4, rfl⟩ := hρ
      obtain ⟨o, rfl⟩ := hp.own
      -- the size
      refine seq_by (fun ρ => ∃ s' size, Pot (10 * (j : Int) + 3) s' ∧ 1 ≤ size ∧ size ≤ 40 ∧ ρ = RR7 s' (.dat (.int (j : Int))) (.dat (sv (wd q) n)) (.dat (.int size)) a4 a5 a6) (fun N hN => ?_) (fun ρ hρ => ?_)
      · cases c : decide ((j : Int) % 2 = 0) with
        | true =>
          simp only [RR7, e_take, c, wSeq, wNext, wIfS, wSetF, wSet, into, wSetIx, wRet, wRetN, wDrop, wB, wBin, wUn, wCB, wCons, wNil, wVar, wC, wIf, wAnd, wOr, DL.wNot, wAndV, wOrV, wNotV, wTup, wLst, wSl, wNoPart, wPart, wChain, wUnp, wgTup, wgCons, wgNil, wName, wIsi, wListRg, wRg1, wRg2, wTupRg, wPuts, puts, Rz.sd, wConsH, wAppend, wExtend, ownL, dI, dI0, dIx, dInt, dAbs, dLen, dMax2, dMin2, dSum, dSumX, dAll, dAny, dList, dTuple, dAdd, dNeg, dIsN, dNotN, PD.isN, dSl, look, looks, ok, Rz.pd, SD.pd, OD.pd, Rz.cold, Rz.cool, warm, pdsOf, frz, frzAll, leave, argOf, onceB, newBor, isBor, ty_non, ty_bl, ty_int, ty_str, ty_lst, ty_scr, ty_tup, ty_dct, isa, String.reduceBEq, jR, jS, jU, uD, jW, wYes, wCall, backS_0, backS_1, backS_2, backS_3, backS_4, backS_o0, backS_o1, backS_o2, backS_o3, dEq_int, dEq_str, dNeX_int, dNeX_str, jC, jD, jE, jF, List.replicate, Nat.reduceAdd, Nat.reduceSub, jA, jB, jG, jH, jI, jJ, jK, jL, jM, jP, jQ, true_or, or_true, true_and, and_true, jV, jT, jY, jZ, uC, uA, uB, decide_true, decide_false, wFor, wRng1, wRng2, wLc, wSeqI, items, wEnumX, wCallO, wNever, noOwn, jN, jO, wipeS, jX, uE, atI0a, atI0b, atI0c, atI1b, atI1c, atI2c, wZipX, seqP, wRaise, wIsE, wVal, wMk, wPopAt, wPop, wAug, wTr, dTr, dLtX, dDivmod, wPick, pick, List.filterMap_cons, List.filterMap_nil]
          refine ⟨by unfold CPos; decide, ?_⟩
          refine drw.tk hp (by omega) (by decide) (sm_big (by decide)) fun t s' t0 t1 hp => ?_
          obtain ⟨o2, rfl⟩ := hp.own
          simp only [backS_h1, wSeq, wNext, wIfS, wSetF, wSet, into, wSetIx, wRet, wRetN, wDrop, wB, wBin, wUn, wCB, wCons, wNil, wVar, wC, wIf, wAnd, wOr, DL.wNot, wAndV, wOrV, wNotV, wTup, wLst, wSl, wNoPart, wPart, wChain, wUnp, wgTup, wgCons, wgNil, wName, wIsi, wListRg, wRg1, wRg2, wTupRg, wPuts, puts, Rz.sd, wConsH, wAppend, wExtend, ownL, dI, dI0, dIx, dInt, dAbs, dLen, dMax2, dMin2, dSum, dSumX, dAll, dAny, dList, dTuple, dAdd, dNeg, dIsN, dNotN, PD.isN, dSl, look, looks, ok, Rz.pd, SD.pd, OD.pd, Rz.cold, Rz.cool, warm, pdsOf, frz, frzAll, leave, argOf, onceB, newBor, isBor, ty_non, ty_bl, ty_int, ty_str, ty_lst, ty_scr, ty_tup, ty_dct, isa, String.reduceBEq, jR, jS, jU, uD, jW, wYes, wCall, backS_0, backS_1, backS_2, backS_3, backS_4, backS_o0, backS_o1, backS_o2, backS_o3, dEq_int, dEq_str, dNeX_int, dNeX_str, jC, jD, jE, jF, List.replicate, Nat.reduceAdd, Nat.reduceSub, jA, jB, jG, jH, jI, jJ, jK, jL, jM, jP, jQ, true_or, or_true, true_and, and_true, jV, jT, jY, jZ, uC, uA, uB, decide_true, decide_false, wFor, wRng1, wRng2, wLc, wSeqI, items, wEnumX, wCallO, wNever, noOwn, jN, jO, wipeS, jX, uE, atI0a, atI0b, atI0c, atI1b, atI1c, atI2c, wZipX, seqP, wRaise, wIsE, wVal, wMk, wPopAt, wPop, wAug, wTr, dTr, dLtX, dDivmod, wPick, pick, List.filterMap_cons, List.filterMap_nil]
          exact hN _ ⟨_, 1 + t, hp.mono (by omega), by omega, by omega, rfl⟩
        | false =>
          simp only [RR7, e_take, c, wSeq, wNext, wIfS, wSetF, wSet, into, wSetIx, wRet, wRetN, wDrop, wB, wBin, wUn, wCB, wCons, wNil, wVar, wC, wIf, wAnd, wOr, DL.wNot, wAndV, wOrV, wNotV, wTup, wLst, wSl, wNoPart, wPart, wChain, wUnp, wgTup, wgCons, wgNil, wName, wIsi, wListRg, wRg1, wRg2, wTupRg, wPuts, puts, Rz.sd, wConsH, wAppend, wExtend, ownL, dI, dI0, dIx, dInt, dAbs, dLen, dMax2, dMin2, dSum, dSumX, dAll, dAny, dList, dTuple, dAdd, dNeg, dIsN, dNotN, PD.isN, dSl, look, looks, ok, Rz.pd, SD.pd, OD.pd, Rz.cold, Rz.cool, warm, pdsOf, frz, frzAll, leave, argOf, onceB, newBor, isBor, ty_non, ty_bl, ty_int, ty_str, ty_lst, ty_scr, ty_tup, ty_dct, isa, String.reduceBEq, jR, jS, jU, uD, jW, wYes, wCall, backS_0, backS_1, backS_2, backS_3, backS_4, backS_o0, backS_o1, backS_o2, backS_o3, dEq_int, dEq_str, dNeX_int, dNeX_str, jC, jD, jE, jF, List.replicate, Nat.reduceAdd, Nat.reduceSub, jA, jB, jG, jH, jI, jJ, jK, jL, jM, jP, jQ, true_or, or_true, true_and, and_true, jV, jT, jY, jZ, uC, uA, uB, decide_true, decide_false, wFor, wRng1, wRng2, wLc, wSeqI, items, wEnumX, wCallO, wNever, noOwn, jN, jO, wipeS, jX, uE, atI0a, atI0b, atI0c, atI1b, atI1c, atI2c, wZipX, seqP, wRaise, wIsE, wVal, wMk, wPopAt, wPop, wAug, wTr, dTr, dLtX, dDivmod, wPick, pick, List.filterMap_cons, List.filterMap_nil]
          refine ⟨by unfold CPos; decide, ?_⟩
          refine drw.tk hp (by omega) (by decide) (sm_big (by decide)) fun t s' t0 t1 hp => ?_
          obtain ⟨o2, rfl⟩ := hp.own
          simp only [backS_h1, wSeq, wNext, wIfS, wSetF, wSet, into, wSetIx, wRet, wRetN, wDrop, wB, wBin, wUn, wCB, wCons, wNil, wVar, wC, wIf, wAnd, wOr, DL.wNot, wAndV, wOrV, wNotV, wTup, wLst, wSl, wNoPart, wPart, wChain, wUnp, wgTup, wgCons, wgNil, wName, wIsi, wListRg, wRg1, wRg2, wTupRg, wPuts, puts, Rz.sd, wConsH, wAppend, wExtend, ownL, dI, dI0, dIx, dInt, dAbs, dLen, dMax2, dMin2, dSum, dSumX, dAll, dAny, dList, dTuple, dAdd, dNeg, dIsN, dNotN, PD.isN, dSl, look, looks, ok, Rz.pd, SD.pd, OD.pd, Rz.cold, Rz.cool, warm, pdsOf, frz, frzAll, leave, argOf, onceB, newBor, isBor, ty_non, ty_bl, ty_int, ty_str, ty_lst, ty_scr, ty_tup, ty_dct, isa, String.reduceBEq, jR, jS, jU, uD, jW, wYes, wCall, backS_0, backS_1, backS_2, backS_3, backS_4, backS_o0, backS_o1, backS_o2, backS_o3, dEq_int, dEq_str, dNeX_int, dNeX_str, jC, jD, jE, jF, List.replicate, Nat.reduceAdd, Nat.reduceSub, jA, jB, jG, jH, jI, jJ, jK, jL, jM, jP, jQ, true_or, or_true, true_and, and_true, jV, jT, jY, jZ, uC, uA, uB, decide_true, decide_false, wFor, wRng1, wRng2, wLc, wSeqI, items, wEnumX, wCallO, wNever, noOwn, jN, jO, wipeS, jX, uE, atI0a, atI0b, atI0c, atI1b, atI1c, atI2c, wZipX, seqP, wRaise, wIsE, wVal, wMk, wPopAt, wPop, wAug, wTr, dTr, dLtX, dDivmod, wPick, pick, List.filterMap_cons, List.filterMap_nil]
          exact hN _ ⟨_, 1 + t, hp.mono (by omega), by omega, by omega, rfl⟩
      obtain ⟨s', size, hp, s1, s4, rfl⟩ := hρ
      obtain ⟨o, rfl⟩ := hp.own
      have hsv : Sv (wd q) n := ⟨by rcases q with _ | _ | _ <;> first | exact .inl rfl | exact .inr (.inl rfl) | exact .inr (.inr rfl), n1, n4⟩
      -- the pair
      refine seq_by (fun ρ => ∃ s' x y d, Pot (10 * (j : Int) + 9) s' ∧ (0 ≤ x ∧ x ≤ size) ∧ (0 ≤ y ∧ y ≤ size) ∧ (0 ≤ d ∧ d ≤ 60) ∧ ρ = RR7 s' (.dat (.int (j : Int))) (.dat (sv (wd q) n)) (.dat (.int size)) (.dat (.tup [.int x, .int y, .int d])) a5 a6) (fun N hN => ?_) (fun ρ hρ => ?_)
      · simp only [e_pair, RR7, wSeq, wNext, wIfS, wSetF, wSet, into, wSetIx, wRet, wRetN, wDrop, wB, wBin, wUn, wCB, wCons, wNil, wVar, wC, wIf, wAnd, wOr, DL.wNot, wAndV, wOrV, wNotV, wTup, wLst, wSl, wNoPart, wPart, wChain, wUnp, wgTup, wgCons, wgNil, wName, wIsi, wListRg, wRg1, wRg2, wTupRg, wPuts, puts, Rz.sd, wConsH, wAppend, wExtend, ownL, dI, dI0, dIx, dInt, dAbs, dLen, dMax2, dMin2, dSum, dSumX, dAll, dAny, dList, dTuple, dAdd, dNeg, dIsN, dNotN, PD.isN, dSl, look, looks, ok, Rz.pd, SD.pd, OD.pd, Rz.cold, Rz.cool, warm, pdsOf, frz, frzAll, leave, argOf, onceB, newBor, isBor, ty_non, ty_bl, ty_int, ty_str, ty_lst, ty_scr, ty_tup, ty_dct, isa, String.reduceBEq, jR, jS, jU, uD, jW, wYes, wCall, backS_0, backS_1, backS_2, backS_3, backS_4, backS_o0, backS_o1, backS_o2, backS_o3, dEq_int, dEq_str, dNeX_int, dNeX_str, jC, jD, jE, jF, List.replicate, Nat.reduceAdd, Nat.reduceSub, jA, jB, jG, jH, jI, jJ, jK, jL, jM, jP, jQ, true_or, or_true, true_and, and_true, jV, jT, jY, jZ, uC, uA, uB, decide_true, decide_false, wFor, wRng1, wRng2, wLc, wSeqI, items, wEnumX, wCallO, wNever, noOwn, jN, jO, wipeS, jX, uE, atI0a, atI0b, atI0c, atI1b, atI1c, atI2c, wZipX, seqP, wRaise, wIsE, wVal, wMk, wPopAt, wPop, wAug, wTr, dTr, dLtX, dDivmod, wPick, pick, List.filterMap_cons, List.filterMap_nil]
        refine lawPair_ok drw hp (by omega) hsv s1 s4 fun x y d s' x0 x1 y0 y1 d0 d1 hp => ?_
        obtain ⟨o2, rfl⟩ := hp.own
        rw [backS_o2 (k := 0) (o := o) rfl]
        simp only [wSeq, wNext, wIfS, wSetF, wSet, into, wSetIx, wRet, wRetN, wDrop, wB, wBin, wUn, wCB, wCons, wNil, wVar, wC, wIf, wAnd, wOr, DL.wNot, wAndV, wOrV, wNotV, wTup, wLst, wSl, wNoPart, wPart, wChain, wUnp, wgTup, wgCons, wgNil, wName, wIsi, wListRg, wRg1, wRg2, wTupRg, wPuts, puts, Rz.sd, wConsH, wAppend, wExtend, ownL, dI, dI0, dIx, dInt, dAbs, dLen, dMax2, dMin2, dSum, dSumX, dAll, dAny, dList, dTuple, dAdd, dNeg, dIsN, dNotN, PD.isN, dSl, look, looks, ok, Rz.pd, SD.pd, OD.pd, Rz.cold, Rz.cool, warm, pdsOf, frz, frzAll, leave, argOf, onceB, newBor, isBor, ty_non, ty_bl, ty_int, ty_str, ty_lst, ty_scr, ty_tup, ty_dct, isa, String.reduceBEq, jR, jS, jU, uD, jW, wYes, wCall, backS_0, backS_1, backS_2, backS_3, backS_4, backS_o0, backS_o1, backS_o2, backS_o3, dEq_int, dEq_str, dNeX_int, dNeX_str, jC, jD, jE, jF, List.replicate, Nat.reduceAdd, Nat.reduceSub, jA, jB, jG, jH, jI, jJ, jK, jL, jM, jP, jQ, true_or, or_true, true_and, and_true, jV, jT, jY, jZ, uC, uA, uB, decide_true, decide_false, wFor, wRng1, wRng2, wLc, wSeqI, items, wEnumX, wCallO, wNever, noOwn, jN, jO, wipeS, jX, uE, atI0a, atI0b, atI0c, atI1b, atI1c, atI2c, wZipX, seqP, wRaise, wIsE, wVal, wMk, wPopAt, wPop, wAug, wTr, dTr, dLtX, dDivmod, wPick, pick, List.filterMap_cons, List.filterMap_nil]
        exact hN _ ⟨_, x, y, d, hp.mono (by omega), ⟨x0, x1⟩, ⟨y0, y1⟩, ⟨d0, d1⟩, rfl⟩
      obtain ⟨s', x, y, d, hp, ⟨x0, x1⟩, ⟨y0, y1⟩, ⟨d0, d1⟩, rfl⟩ := hρ
      obtain ⟨o, rfl⟩ := hp.own
      have fin : N2 (RR7 (.own o) (.dat (.int (j : Int))) (.dat (sv (wd q) n)) (.dat (.int size)) (.dat (.tup [.int x, .int y, .int d])) a5 a6) → True := fun _ => trivial
      have hcb : ∀ (b : Bool), canB (wd q) n size x y d = b → ∀ (Ξ : Xp) (Q' : Rz → Sl → Prop), Q' (.dat (.bl b)) [.dat (sv (wd q) n), .dat (.int size), .dat (.tup [.int x, .int y, .int d])] → CB cl [.dat (sv (wd q) n), .dat (.int size), .dat (.tup [.int x, .int y, .int d])] Q' Ξ := fun b hb Ξ Q' z => by
        refine canBe_ok hsv s1 (by omega) x0 x1 y0 y1 d0 (by omega) ?_
        rw [hb]; exact z
      cases hc : canB (wd q) n size x y d with
      | false =>
        refine seq_to (ρ' := RR7 (.own o) (.dat (.int (j : Int))) (.dat (sv (wd q) n)) (.dat (.int size)) (.dat (.tup [.int x, .int y, .int d])) (.dat (.err (cl 3) (.tup [.int x, .int y, .int d]))) (.dat .non)) (fun N hN => ?_) ?_
        · simp only [wUnp, wLam]
          refine heard_err (j := 3) (d := .tup [.int x, .int y, .int d]) (by decide) (fun Qr Ξ' hq => ?_) ?_
          · show wCall 3 (F_pair_script cl) Ξ' _ [SD.veil (.own o), .dat (.int (j : Int)), .dat (sv (wd q) n), .dat (.int size), .dat (.tup [.int x, .int y, .int d]), SD.veil a5, SD.veil a6] _
            simp only [e_pscript, wSeq, wNext, wIfS, wSetF, wSet, into, wSetIx, wRet, wRetN, wDrop, wB, wBin, wUn, wCB, wCons, wNil, wVar, wC, wIf, wAnd, wOr, DL.wNot, wAndV, wOrV, wNotV, wTup, wLst, wSl, wNoPart, wPart, wChain, wUnp, wgTup, wgCons, wgNil, wName, wIsi, wListRg, wRg1, wRg2, wTupRg, wPuts, puts, Rz.sd, wConsH, wAppend, wExtend, ownL, dI, dI0, dIx, dInt, dAbs, dLen, dMax2, dMin2, dSum, dSumX, dAll, dAny, dList, dTuple, dAdd, dNeg, dIsN, dNotN, PD.isN, dSl, look, looks, ok, Rz.pd, SD.pd, OD.pd, Rz.cold, Rz.cool, warm, pdsOf, frz, frzAll, leave, argOf, onceB, newBor, isBor, ty_non, ty_bl, ty_int, ty_str, ty_lst, ty_scr, ty_tup, ty_dct, isa, String.reduceBEq, jR, jS, jU, uD, jW, wYes, wCall, backS_0, backS_1, backS_2, backS_3, backS_4, backS_o0, backS_o1, backS_o2, backS_o3, dEq_int, dEq_str, dNeX_int, dNeX_str, jC, jD, jE, jF, List.replicate, Nat.reduceAdd, Nat.reduceSub, jA, jB, jG, jH, jI, jJ, jK, jL, jM, jP, jQ, true_or, or_true, true_and, and_true, jV, jT, jY, jZ, uC, uA, uB, decide_true, decide_false, wFor, wRng1, wRng2, wLc, wSeqI, items, wEnumX, wCallO, wNever, noOwn, jN, jO, wipeS, jX, uE, atI0a, atI0b, atI0c, atI1b, atI1c, atI2c, wZipX, seqP, wRaise, wIsE, wVal, wMk, wPopAt, wPop, wAug, wTr, dTr, dLtX, dDivmod, wPick, pick, List.filterMap_cons, List.filterMap_nil]
            refine pairScript_no rfl (hcb false hc Ξ') ?_
            exact hq
          · simp only [RR7, z2, wSeq, wNext, wIfS, wSetF, wSet, into, wSetIx, wRet, wRetN, wDrop, wB, wBin, wUn, wCB, wCons, wNil, wVar, wC, wIf, wAnd, wOr, DL.wNot, wAndV, wOrV, wNotV, wTup, wLst, wSl, wNoPart, wPart, wChain, wUnp, wgTup, wgCons, wgNil, wName, wIsi, wListRg, wRg1, wRg2, wTupRg, wPuts, puts, Rz.sd, wConsH, wAppend, wExtend, ownL, dI, dI0, dIx, dInt, dAbs, dLen, dMax2, dMin2, dSum, dSumX, dAll, dAny, dList, dTuple, dAdd, dNeg, dIsN, dNotN, PD.isN, dSl, look, looks, ok, Rz.pd, SD.pd, OD.pd, Rz.cold, Rz.cool, warm, pdsOf, frz, frzAll, leave, argOf, onceB, newBor, isBor, ty_non, ty_bl, ty_int, ty_str, ty_lst, ty_scr, ty_tup, ty_dct, isa, String.reduceBEq, jR, jS, jU, uD, jW, wYes, wCall, backS_0, backS_1, backS_2, backS_3, backS_4, backS_o0, backS_o1, backS_o2, backS_o3, dEq_int, dEq_str, dNeX_int, dNeX_str, jC, jD, jE, jF, List.replicate, Nat.reduceAdd, Nat.reduceSub, jA, jB, jG, jH, jI, jJ, jK, jL, jM, jP, jQ, true_or, or_true, true_and, and_true, jV, jT, jY, jZ, uC, uA, uB, decide_true, decide_false, wFor, wRng1, wRng2, wLc, wSeqI, items, wEnumX, wCallO, wNever, noOwn, jN, jO, wipeS, jX, uE, atI0a, atI0b, atI0c, atI1b, atI1c, atI2c, wZipX, seqP, wRaise, wIsE, wVal, wMk, wPopAt, wPop, wAug, wTr, dTr, dLtX, dDivmod, wPick, pick, List.filterMap_cons, List.filterMap_nil]
            exact hN
        · have hr := rep_nice (d := .tup [.int x, .int y, .int d]) (nice3 (nice_int (by omega)) (nice_int (by omega)) (nice_int (by omega))) deep3 nodes3
          refine ifs_of true (fun Q' z => ?_) (fun _ => ?_) (fun z => nomatch z)
          · simp only [RR7, e_lcan, wSeq, wNext, wIfS, wSetF, wSet, into, wSetIx, wRet, wRetN, wDrop, wB, wBin, wUn, wCB, wCons, wNil, wVar, wC, wIf, wAnd, wOr, DL.wNot, wAndV, wOrV, wNotV, wTup, wLst, wSl, wNoPart, wPart, wChain, wUnp, wgTup, wgCons, wgNil, wName, wIsi, wListRg, wRg1, wRg2, wTupRg, wPuts, puts, Rz.sd, wConsH, wAppend, wExtend, ownL, dI, dI0, dIx, dInt, dAbs, dLen, dMax2, dMin2, dSum, dSumX, dAll, dAny, dList, dTuple, dAdd, dNeg, dIsN, dNotN, PD.isN, dSl, look, looks, ok, Rz.pd, SD.pd, OD.pd, Rz.cold, Rz.cool, warm, pdsOf, frz, frzAll, leave, argOf, onceB, newBor, isBor, ty_non, ty_bl, ty_int, ty_str, ty_lst, ty_scr, ty_tup, ty_dct, isa, String.reduceBEq, jR, jS, jU, uD, jW, wYes, wCall, backS_0, backS_1, backS_2, backS_3, backS_4, backS_o0, backS_o1, backS_o2, backS_o3, dEq_int, dEq_str, dNeX_int, dNeX_str, jC, jD, jE, jF, List.replicate, Nat.reduceAdd, Nat.reduceSub, jA, jB, jG, jH, jI, jJ, jK, jL, jM, jP, jQ, true_or, or_true, true_and, and_true, jV, jT, jY, jZ, uC, uA, uB, decide_true, decide_false, wFor, wRng1, wRng2, wLc, wSeqI, items, wEnumX, wCallO, wNever, noOwn, jN, jO, wipeS, jX, uE, atI0a, atI0b, atI0c, atI1b, atI1c, atI2c, wZipX, seqP, wRaise, wIsE, wVal, wMk, wPopAt, wPop, wAug, wTr, dTr, dLtX, dDivmod, wPick, pick, List.filterMap_cons, List.filterMap_nil]
            refine can_ok hsv (sm_big (by omega)) ?_
            rw [hc]
            simp only [wSeq, wNext, wIfS, wSetF, wSet, into, wSetIx, wRet, wRetN, wDrop, wB, wBin, wUn, wCB, wCons, wNil, wVar, wC, wIf, wAnd, wOr, DL.wNot, wAndV, wOrV, wNotV, wTup, wLst, wSl, wNoPart, wPart, wChain, wUnp, wgTup, wgCons, wgNil, wName, wIsi, wListRg, wRg1, wRg2, wTupRg, wPuts, puts, Rz.sd, wConsH, wAppend, wExtend, ownL, dI, dI0, dIx, dInt, dAbs, dLen, dMax2, dMin2, dSum, dSumX, dAll, dAny, dList, dTuple, dAdd, dNeg, dIsN, dNotN, PD.isN, dSl, look, looks, ok, Rz.pd, SD.pd, OD.pd, Rz.cold, Rz.cool, warm, pdsOf, frz, frzAll, leave, argOf, onceB, newBor, isBor, ty_non, ty_bl, ty_int, ty_str, ty_lst, ty_scr, ty_tup, ty_dct, isa, String.reduceBEq, jR, jS, jU, uD, jW, wYes, wCall, backS_0, backS_1, backS_2, backS_3, backS_4, backS_o0, backS_o1, backS_o2, backS_o3, dEq_int, dEq_str, dNeX_int, dNeX_str, jC, jD, jE, jF, List.replicate, Nat.reduceAdd, Nat.reduceSub, jA, jB, jG, jH, jI, jJ, jK, jL, jM, jP, jQ, true_or, or_true, true_and, and_true, jV, jT, jY, jZ, uC, uA, uB, decide_true, decide_false, wFor, wRng1, wRng2, wLc, wSeqI, items, wEnumX, wCallO, wNever, noOwn, jN, jO, wipeS, jX, uE, atI0a, atI0b, atI0c, atI1b, atI1c, atI2c, wZipX, seqP, wRaise, wIsE, wVal, wMk, wPopAt, wPop, wAug, wTr, dTr, dLtX, dDivmod, wPick, pick, List.filterMap_cons, List.filterMap_nil]
            exact z
          · simp only [RR7, wIfS, wOr, DL.wNot, wB, wIsE, wVar, look, ok, Rz.pd, List.getElem?_cons_zero, List.getElem?_cons_succ]
            refine ⟨3, by decide, rfl, ?_⟩
            have ek : kb 3 3 = true := rfl
            simp only [ek, Bool.not_true]
            simp only [wBin, wCB, wCons, wNil, wVal, wVar, look, looks, pdsOf, ok, Rz.pd, Rz.cold, Rz.cool, warm, true_or, true_and, List.getElem?_cons_zero, List.getElem?_cons_succ]
            refine ⟨⟨3, by decide, rfl⟩, ?_⟩
            refine hr.2 _ ?_
            simp only [Rz.cold, Rz.cool, Rz.pd, true_or, true_and]
            refine hr.2 _ ?_
            simp only [Rz.pd, dNeX_str hr.1 hr.1, ne_eq, not_true, decide_false, wNext]
            exact hN2 _ ⟨_, _, _, _, _, _, _, hp.mono (by omega), rfl⟩
      | true =>
        obtain ⟨vs, one, other, ht, hsh⟩ := told_right (cl := cl) n1 n4 s1 s4 x0 x1 y0 y1 d0 d1 hc
        refine seq_to (ρ' := RR7 (.own o) (.dat (.int (j : Int))) (.dat (sv (wd q) n)) (.dat (.int size)) (.dat (.tup [.int x, .int y, .int d])) (.dat .non) (.dat (.tup [.tup vs, .int one, .int other]))) (fun N hN => ?_) ?_
        · simp only [wUnp, wLam]
          refine heard_ok (d := .tup [.tup vs, .int one, .int other]) (fun Qr Ξ' hq => ?_) ?_
          · show wCall 3 (F_pair_script cl) Ξ' _ [SD.veil (.own o), .dat (.int (j : Int)), .dat (sv (wd q) n), .dat (.int size), .dat (.tup [.int x, .int y, .int d]), SD.veil a5, SD.veil a6] _
            simp only [wSeq, wNext, wIfS, wSetF, wSet, into, wSetIx, wRet, wRetN, wDrop, wB, wBin, wUn, wCB, wCons, wNil, wVar, wC, wIf, wAnd, wOr, DL.wNot, wAndV, wOrV, wNotV, wTup, wLst, wSl, wNoPart, wPart, wChain, wUnp, wgTup, wgCons, wgNil, wName, wIsi, wListRg, wRg1, wRg2, wTupRg, wPuts, puts, Rz.sd, wConsH, wAppend, wExtend, ownL, dI, dI0, dIx, dInt, dAbs, dLen, dMax2, dMin2, dSum, dSumX, dAll, dAny, dList, dTuple, dAdd, dNeg, dIsN, dNotN, PD.isN, dSl, look, looks, ok, Rz.pd, SD.pd, OD.pd, Rz.cold, Rz.cool, warm, pdsOf, frz, frzAll, leave, argOf, onceB, newBor, isBor, ty_non, ty_bl, ty_int, ty_str, ty_lst, ty_scr, ty_tup, ty_dct, isa, String.reduceBEq, jR, jS, jU, uD, jW, wYes, wCall, backS_0, backS_1, backS_2, backS_3, backS_4, backS_o0, backS_o1, backS_o2, backS_o3, dEq_int, dEq_str, dNeX_int, dNeX_str, jC, jD, jE, jF, List.replicate, Nat.reduceAdd, Nat.reduceSub, jA, jB, jG, jH, jI, jJ, jK, jL, jM, jP, jQ, true_or, or_true, true_and, and_true, jV, jT, jY, jZ, uC, uA, uB, decide_true, decide_false, wFor, wRng1, wRng2, wLc, wSeqI, items, wEnumX, wCallO, wNever, noOwn, jN, jO, wipeS, jX, uE, atI0a, atI0b, atI0c, atI1b, atI1c, atI2c, wZipX, seqP, wRaise, wIsE, wVal, wMk, wPopAt, wPop, wAug, wTr, dTr, dLtX, dDivmod, wPick, pick, List.filterMap_cons, List.filterMap_nil]
            refine ht _ Ξ' ?_
            (try simp only [wSeq, wNext, wIfS, wSetF, wSet, into, wSetIx, wRet, wRetN, wDrop, wB, wBin, wUn, wCB, wCons, wNil, wVar, wC, wIf, wAnd, wOr, DL.wNot, wAndV, wOrV, wNotV, wTup, wLst, wSl, wNoPart, wPart, wChain, wUnp, wgTup, wgCons, wgNil, wName, wIsi, wListRg, wRg1, wRg2, wTupRg, wPuts, puts, Rz.sd, wConsH, wAppend, wExtend, ownL, dI, dI0, dIx, dInt, dAbs, dLen, dMax2, dMin2, dSum, dSumX, dAll, dAny, dList, dTuple, dAdd, dNeg, dIsN, dNotN, PD.isN, dSl, look, looks, ok, Rz.pd, SD.pd, OD.pd, Rz.cold, Rz.cool, warm, pdsOf, frz, frzAll, leave, argOf, onceB, newBor, isBor, ty_non, ty_bl, ty_int, ty_str, ty_lst, ty_scr, ty_tup, ty_dct, isa, String.reduceBEq, jR, jS, jU, uD, jW, wYes, wCall, backS_0, backS_1, backS_2, backS_3, backS_4, backS_o0, backS_o1, backS_o2, backS_o3, dEq_int, dEq_str, dNeX_int, dNeX_str, jC, jD, jE, jF, List.replicate, Nat.reduceAdd, Nat.reduceSub, jA, jB, jG, jH, jI, jJ, jK, jL, jM, jP, jQ, true_or, or_true, true_and, and_true, jV, jT, jY, jZ, uC, uA, uB, decide_true, decide_false, wFor, wRng1, wRng2, wLc, wSeqI, items, wEnumX, wCallO, wNever, noOwn, jN, jO, wipeS, jX, uE, atI0a, atI0b, atI0c, atI1b, atI1c, atI2c, wZipX, seqP, wRaise, wIsE, wVal, wMk, wPopAt, wPop, wAug, wTr, dTr, dLtX, dDivmod, wPick, pick, List.filterMap_cons, List.filterMap_nil])
            first | exact hq | exact ⟨rfl, hq⟩
          · simp only [RR7, z2, wSeq, wNext, wIfS, wSetF, wSet, into, wSetIx, wRet, wRetN, wDrop, wB, wBin, wUn, wCB, wCons, wNil, wVar, wC, wIf, wAnd, wOr, DL.wNot, wAndV, wOrV, wNotV, wTup, wLst, wSl, wNoPart, wPart, wChain, wUnp, wgTup, wgCons, wgNil, wName, wIsi, wListRg, wRg1, wRg2, wTupRg, wPuts, puts, Rz.sd, wConsH, wAppend, wExtend, ownL, dI, dI0, dIx, dInt, dAbs, dLen, dMax2, dMin2, dSum, dSumX, dAll, dAny, dList, dTuple, dAdd, dNeg, dIsN, dNotN, PD.isN, dSl, look, looks, ok, Rz.pd, SD.pd, OD.pd, Rz.cold, Rz.cool, warm, pdsOf, frz, frzAll, leave, argOf, onceB, newBor, isBor, ty_non, ty_bl, ty_int, ty_str, ty_lst, ty_scr, ty_tup, ty_dct, isa, String.reduceBEq, jR, jS, jU, uD, jW, wYes, wCall, backS_0, backS_1, backS_2, backS_3, backS_4, backS_o0, backS_o1, backS_o2, backS_o3, dEq_int, dEq_str, dNeX_int, dNeX_str, jC, jD, jE, jF, List.replicate, Nat.reduceAdd, Nat.reduceSub, jA, jB, jG, jH, jI, jJ, jK, jL, jM, jP, jQ, true_or, or_true, true_and, and_true, jV, jT, jY, jZ, uC, uA, uB, decide_true, decide_false, wFor, wRng1, wRng2, wLc, wSeqI, items, wEnumX, wCallO, wNever, noOwn, jN, jO, wipeS, jX, uE, atI0a, atI0b, atI0c, atI1b, atI1c, atI2c, wZipX, seqP, wRaise, wIsE, wVal, wMk, wPopAt, wPop, wAug, wTr, dTr, dLtX, dDivmod, wPick, pick, List.filterMap_cons, List.filterMap_nil]
            exact hN
        · refine ifs_of false (fun Q' z => ?_) (fun z => nomatch z) (fun _ => ?_)
          · simp only [RR7, e_lcan, wSeq, wNext, wIfS, wSetF, wSet, into, wSetIx, wRet, wRetN, wDrop, wB, wBin, wUn, wCB, wCons, wNil, wVar, wC, wIf, wAnd, wOr, DL.wNot, wAndV, wOrV, wNotV, wTup, wLst, wSl, wNoPart, wPart, wChain, wUnp, wgTup, wgCons, wgNil, wName, wIsi, wListRg, wRg1, wRg2, wTupRg, wPuts, puts, Rz.sd, wConsH, wAppend, wExtend, ownL, dI, dI0, dIx, dInt, dAbs, dLen, dMax2, dMin2, dSum, dSumX, dAll, dAny, dList, dTuple, dAdd, dNeg, dIsN, dNotN, PD.isN, dSl, look, looks, ok, Rz.pd, SD.pd, OD.pd, Rz.cold, Rz.cool, warm, pdsOf, frz, frzAll, leave, argOf, onceB, newBor, isBor, ty_non, ty_bl, ty_int, ty_str, ty_lst, ty_scr, ty_tup, ty_dct, isa, String.reduceBEq, jR, jS, jU, uD, jW, wYes, wCall, backS_0, backS_1, backS_2, backS_3, backS_4, backS_o0, backS_o1, backS_o2, backS_o3, dEq_int, dEq_str, dNeX_int, dNeX_str, jC, jD, jE, jF, List.replicate, Nat.reduceAdd, Nat.reduceSub, jA, jB, jG, jH, jI, jJ, jK, jL, jM, jP, jQ, true_or, or_true, true_and, and_true, jV, jT, jY, jZ, uC, uA, uB, decide_true, decide_false, wFor, wRng1, wRng2, wLc, wSeqI, items, wEnumX, wCallO, wNever, noOwn, jN, jO, wipeS, jX, uE, atI0a, atI0b, atI0c, atI1b, atI1c, atI2c, wZipX, seqP, wRaise, wIsE, wVal, wMk, wPopAt, wPop, wAug, wTr, dTr, dLtX, dDivmod, wPick, pick, List.filterMap_cons, List.filterMap_nil]
            refine can_ok hsv (sm_big (by omega)) ?_
            rw [hc]
            simp only [wSeq, wNext, wIfS, wSetF, wSet, into, wSetIx, wRet, wRetN, wDrop, wB, wBin, wUn, wCB, wCons, wNil, wVar, wC, wIf, wAnd, wOr, DL.wNot, wAndV, wOrV, wNotV, wTup, wLst, wSl, wNoPart, wPart, wChain, wUnp, wgTup, wgCons, wgNil, wName, wIsi, wListRg, wRg1, wRg2, wTupRg, wPuts, puts, Rz.sd, wConsH, wAppend, wExtend, ownL, dI, dI0, dIx, dInt, dAbs, dLen, dMax2, dMin2, dSum, dSumX, dAll, dAny, dList, dTuple, dAdd, dNeg, dIsN, dNotN, PD.isN, dSl, look, looks, ok, Rz.pd, SD.pd, OD.pd, Rz.cold, Rz.cool, warm, pdsOf, frz, frzAll, leave, argOf, onceB, newBor, isBor, ty_non, ty_bl, ty_int, ty_str, ty_lst, ty_scr, ty_tup, ty_dct, isa, String.reduceBEq, jR, jS, jU, uD, jW, wYes, wCall, backS_0, backS_1, backS_2, backS_3, backS_4, backS_o0, backS_o1, backS_o2, backS_o3, dEq_int, dEq_str, dNeX_int, dNeX_str, jC, jD, jE, jF, List.replicate, Nat.reduceAdd, Nat.reduceSub, jA, jB, jG, jH, jI, jJ, jK, jL, jM, jP, jQ, true_or, or_true, true_and, and_true, jV, jT, jY, jZ, uC, uA, uB, decide_true, decide_false, wFor, wRng1, wRng2, wLc, wSeqI, items, wEnumX, wCallO, wNever, noOwn, jN, jO, wipeS, jX, uE, atI0a, atI0b, atI0c, atI1b, atI1c, atI2c, wZipX, seqP, wRaise, wIsE, wVal, wMk, wPopAt, wPop, wAug, wTr, dTr, dLtX, dDivmod, wPick, pick, List.filterMap_cons, List.filterMap_nil]
            exact z
          · refine ifs_of false (fun Q' z => ?_) (fun z => nomatch z) (fun _ => ?_)
            · simp only [RR7, e_shows, wSeq, wNext, wIfS, wSetF, wSet, into, wSetIx, wRet, wRetN, wDrop, wB, wBin, wUn, wCB, wCons, wNil, wVar, wC, wIf, wAnd, wOr, DL.wNot, wAndV, wOrV, wNotV, wTup, wLst, wSl, wNoPart, wPart, wChain, wUnp, wgTup, wgCons, wgNil, wName, wIsi, wListRg, wRg1, wRg2, wTupRg, wPuts, puts, Rz.sd, wConsH, wAppend, wExtend, ownL, dI, dI0, dIx, dInt, dAbs, dLen, dMax2, dMin2, dSum, dSumX, dAll, dAny, dList, dTuple, dAdd, dNeg, dIsN, dNotN, PD.isN, dSl, look, looks, ok, Rz.pd, SD.pd, OD.pd, Rz.cold, Rz.cool, warm, pdsOf, frz, frzAll, leave, argOf, onceB, newBor, isBor, ty_non, ty_bl, ty_int, ty_str, ty_lst, ty_scr, ty_tup, ty_dct, isa, String.reduceBEq, jR, jS, jU, uD, jW, wYes, wCall, backS_0, backS_1, backS_2, backS_3, backS_4, backS_o0, backS_o1, backS_o2, backS_o3, dEq_int, dEq_str, dNeX_int, dNeX_str, jC, jD, jE, jF, List.replicate, Nat.reduceAdd, Nat.reduceSub, jA, jB, jG, jH, jI, jJ, jK, jL, jM, jP, jQ, true_or, or_true, true_and, and_true, jV, jT, jY, jZ, uC, uA, uB, decide_true, decide_false, wFor, wRng1, wRng2, wLc, wSeqI, items, wEnumX, wCallO, wNever, noOwn, jN, jO, wipeS, jX, uE, atI0a, atI0b, atI0c, atI1b, atI1c, atI2c, wZipX, seqP, wRaise, wIsE, wVal, wMk, wPopAt, wPop, wAug, wTr, dTr, dLtX, dDivmod, wPick, pick, List.filterMap_cons, List.filterMap_nil]
              refine hsh _ _ ?_
              simp only [wSeq, wNext, wIfS, wSetF, wSet, into, wSetIx, wRet, wRetN, wDrop, wB, wBin, wUn, wCB, wCons, wNil, wVar, wC, wIf, wAnd, wOr, DL.wNot, wAndV, wOrV, wNotV, wTup, wLst, wSl, wNoPart, wPart, wChain, wUnp, wgTup, wgCons, wgNil, wName, wIsi, wListRg, wRg1, wRg2, wTupRg, wPuts, puts, Rz.sd, wConsH, wAppend, wExtend, ownL, dI, dI0, dIx, dInt, dAbs, dLen, dMax2, dMin2, dSum, dSumX, dAll, dAny, dList, dTuple, dAdd, dNeg, dIsN, dNotN, PD.isN, dSl, look, looks, ok, Rz.pd, SD.pd, OD.pd, Rz.cold, Rz.cool, warm, pdsOf, frz, frzAll, leave, argOf, onceB, newBor, isBor, ty_non, ty_bl, ty_int, ty_str, ty_lst, ty_scr, ty_tup, ty_dct, isa, String.reduceBEq, jR, jS, jU, uD, jW, wYes, wCall, backS_0, backS_1, backS_2, backS_3, backS_4, backS_o0, backS_o1, backS_o2, backS_o3, dEq_int, dEq_str, dNeX_int, dNeX_str, jC, jD, jE, jF, List.replicate, Nat.reduceAdd, Nat.reduceSub, jA, jB, jG, jH, jI, jJ, jK, jL, jM, jP, jQ, true_or, or_true, true_and, and_true, jV, jT, jY, jZ, uC, uA, uB, decide_true, decide_false, wFor, wRng1, wRng2, wLc, wSeqI, items, wEnumX, wCallO, wNever, noOwn, jN, jO, wipeS, jX, uE, atI0a, atI0b, atI0c, atI1b, atI1c, atI2c, wZipX, seqP, wRaise, wIsE, wVal, wMk, wPopAt, wPop, wAug, wTr, dTr, dLtX, dDivmod, wPick, pick, List.filterMap_cons, List.filterMap_nil]
              exact z
            · refine ifs_of false (fun Q' z => ?_) (fun z => nomatch z) (fun _ => ?_)
              · simp only [RR7, e_shorter, wSeq, wNext, wIfS, wSetF, wSet, into, wSetIx, wRet, wRetN, wDrop, wB, wBin, wUn, wCB, wCons, wNil, wVar, wC, wIf, wAnd, wOr, DL.wNot, wAndV, wOrV, wNotV, wTup, wLst, wSl, wNoPart, wPart, wChain, wUnp, wgTup, wgCons, wgNil, wName, wIsi, wListRg, wRg1, wRg2, wTupRg, wPuts, puts, Rz.sd, wConsH, wAppend, wExtend, ownL, dI, dI0, dIx, dInt, dAbs, dLen, dMax2, dMin2, dSum, dSumX, dAll, dAny, dList, dTuple, dAdd, dNeg, dIsN, dNotN, PD.isN, dSl, look, looks, ok, Rz.pd, SD.pd, OD.pd, Rz.cold, Rz.cool, warm, pdsOf, frz, frzAll, leave, argOf, onceB, newBor, isBor, ty_non, ty_bl, ty_int, ty_str, ty_lst, ty_scr, ty_tup, ty_dct, isa, String.reduceBEq, jR, jS, jU, uD, jW, wYes, wCall, backS_0, backS_1, backS_2, backS_3, backS_4, backS_o0, backS_o1, backS_o2, backS_o3, dEq_int, dEq_str, dNeX_int, dNeX_str, jC, jD, jE, jF, List.replicate, Nat.reduceAdd, Nat.reduceSub, jA, jB, jG, jH, jI, jJ, jK, jL, jM, jP, jQ, true_or, or_true, true_and, and_true, jV, jT, jY, jZ, uC, uA, uB, decide_true, decide_false, wFor, wRng1, wRng2, wLc, wSeqI, items, wEnumX, wCallO, wNever, noOwn, jN, jO, wipeS, jX, uE, atI0a, atI0b, atI0c, atI1b, atI1c, atI2c, wZipX, seqP, wRaise, wIsE, wVal, wMk, wPopAt, wPop, wAug, wTr, dTr, dLtX, dDivmod, wPick, pick, List.filterMap_cons, List.filterMap_nil]
                refine lawHasShorter_ok n1 n4 (by omega) (by omega) (by omega) (by omega) (by omega) ?_
                simp only [wSeq, wNext, wIfS, wSetF, wSet, into, wSetIx, wRet, wRetN, wDrop, wB, wBin, wUn, wCB, wCons, wNil, wVar, wC, wIf, wAnd, wOr, DL.wNot, wAndV, wOrV, wNotV, wTup, wLst, wSl, wNoPart, wPart, wChain, wUnp, wgTup, wgCons, wgNil, wName, wIsi, wListRg, wRg1, wRg2, wTupRg, wPuts, puts, Rz.sd, wConsH, wAppend, wExtend, ownL, dI, dI0, dIx, dInt, dAbs, dLen, dMax2, dMin2, dSum, dSumX, dAll, dAny, dList, dTuple, dAdd, dNeg, dIsN, dNotN, PD.isN, dSl, look, looks, ok, Rz.pd, SD.pd, OD.pd, Rz.cold, Rz.cool, warm, pdsOf, frz, frzAll, leave, argOf, onceB, newBor, isBor, ty_non, ty_bl, ty_int, ty_str, ty_lst, ty_scr, ty_tup, ty_dct, isa, String.reduceBEq, jR, jS, jU, uD, jW, wYes, wCall, backS_0, backS_1, backS_2, backS_3, backS_4, backS_o0, backS_o1, backS_o2, backS_o3, dEq_int, dEq_str, dNeX_int, dNeX_str, jC, jD, jE, jF, List.replicate, Nat.reduceAdd, Nat.reduceSub, jA, jB, jG, jH, jI, jJ, jK, jL, jM, jP, jQ, true_or, or_true, true_and, and_true, jV, jT, jY, jZ, uC, uA, uB, decide_true, decide_false, wFor, wRng1, wRng2, wLc, wSeqI, items, wEnumX, wCallO, wNever, noOwn, jN, jO, wipeS, jX, uE, atI0a, atI0b, atI0c, atI1b, atI1c, atI2c, wZipX, seqP, wRaise, wIsE, wVal, wMk, wPopAt, wPop, wAug, wTr, dTr, dLtX, dDivmod, wPick, pick, List.filterMap_cons, List.filterMap_nil]
                exact z
              · exact hN2 _ ⟨_, _, _, _, _, _, _, hp.mono (by omega), rfl⟩
    · obtain ⟨s', a1, a2, a3, a4, a5, a6, hp, rfl⟩ := hI
      exact hN _ ⟨_, _, _, _, _, _, _, hp.mono (by rw [rg_len]; omega), rfl⟩
  obtain ⟨s', a1, a2, a3, a4, a5, a6, hp, rfl⟩ := hρ
  obtain ⟨o, rfl⟩ := hp.own
  simp only [RR7, wSeq, wNext, wIfS, wSetF, wSet, into, wSetIx, wRet, wRetN, wDrop, wB, wBin, wUn, wCB, wCons, wNil, wVar, wC, wIf, wAnd, wOr, DL.wNot, wAndV, wOrV, wNotV, wTup, wLst, wSl, wNoPart, wPart, wChain, wUnp, wgTup, wgCons, wgNil, wName, wIsi, wListRg, wRg1, wRg2, wTupRg, wPuts, puts, Rz.sd, wConsH, wAppend, wExtend, ownL, dI, dI0, dIx, dInt, dAbs, dLen, dMax2, dMin2, dSum, dSumX, dAll, dAny, dList, dTuple, dAdd, dNeg, dIsN, dNotN, PD.isN, dSl, look, looks, ok, Rz.pd, SD.pd, OD.pd, Rz.cold, Rz.cool, warm, pdsOf, frz, frzAll, leave, argOf, onceB, newBor, isBor, ty_non, ty_bl, ty_int, ty_str, ty_lst, ty_scr, ty_tup, ty_dct, isa, String.reduceBEq, jR, jS, jU, uD, jW, wYes, wCall, backS_0, backS_1, backS_2, backS_3, backS_4, backS_o0, backS_o1, backS_o2, backS_o3, dEq_int, dEq_str, dNeX_int, dNeX_str, jC, jD, jE, jF, List.replicate, Nat.reduceAdd, Nat.reduceSub, jA, jB, jG, jH, jI, jJ, jK, jL, jM, jP, jQ, true_or, or_true, true_and, and_true, jV, jT, jY, jZ, uC, uA, uB, decide_true, decide_false, wFor, wRng1, wRng2, wLc, wSeqI, items, wEnumX, wCallO, wNever, noOwn, jN, jO, wipeS, jX, uE, atI0a, atI0b, atI0c, atI1b, atI1c, atI2c, wZipX, seqP, wRaise, wIsE, wVal, wMk, wPopAt, wPop, wAug, wTr, dTr, dLtX, dDivmod, wPick, pick, List.filterMap_cons, List.filterMap_nil]
  exact h _
theorem pc : DL.PC 1253 569 74651 8257 537 := ⟨by decide, by decide, by decide, by decide, by decide⟩
theorem pure_ok {cl : Nat → Addr} {ns : List Int} : F_law cl [.dat (.scr ns)] (fun r _ => r = .dat (.bl true)) noX := by
  show mkF (pin [0]) 2 (fun _ => wLawA 3 (FPot 1253 569 74651 8257 537) (F__law_right cl)) _ _ _
  exact lawA_ok pc ⟨by decide, by decide⟩ law_right_ok
end Lk

set_option Elab.async false
set_option linter.all false
set_option maxRecDepth 100000
set_option maxHeartbeats 4000000
namespace Lk
open PySem L2 DL
theorem tab_by {K : PySem.W.Frag} {x nm ql : Str} {f c P : Addr} {oc kV doc pm ct oc2 : Value} {od an od2 : Option Addr} {osl sl2 : Array (Option Value)} {ag : Arguments} {bd : List Stmt} {sp : Scope} {dv : Value} {vs : Array Value}
    (h1 : PySem.W.nsIn K mainGlobals x = some (some (.ref f))) (h2 : K.lookup f = some ⟨oc, od, .func (PySem.W.fnOf nm ql ag bd sp dv kV doc pm an (.ref c) ct), osl⟩)
    (h3 : K.lookup c = some ⟨oc2, od2, .fields vs, sl2⟩) (h4 : vs[11]? = some (.ref P)) : PySem.W.tabIn K x = some (c, P) := by
  unfold PySem.W.tabIn
  rw [h1]; dsimp only; rw [h2]; dsimp only [PySem.W.fnOf]; rw [h3]; dsimp only; rw [h4]
theorem hu_of {ls : List Lm} {p0 : Lm} (nd : (ls.map (·.P)).Nodup) (h0 : p0 ∈ ls) : ∀ p ∈ ls.map (fun p => (p.P, p.q)), p.1 = p0.P → p.2 = p0.q := fun p hp e => by
  obtain ⟨r, hr, rfl⟩ := List.mem_map.mp hp
  have a := find_one nd hr
  have b := find_one nd h0
  have e' : r.P = p0.P := e
  rw [e', b] at a
  exact congrArg (·.q) (Option.some.inj a).symm
def exmB (K : PySem.W.Frag) (Cs : List Addr) (c : Addr) : Bool := Cs.all fun C => decide (PySem.W.exmOne K (.ref C) (.ref c) = some true)
theorem exmB_ok {K : PySem.W.Frag} {Cs : List Addr} {c : Addr} (h : exmB K Cs c = true) (i : Nat) (hi : i < Cs.length) : PySem.W.exmOne K (.ref (Cs.getD i 0)) (.ref c) = some true := by
  rw [List.getD_eq_getElem?_getD, List.getElem?_eq_getElem hi]
  exact of_decide_eq_true (List.all_eq_true.mp h _ (List.getElem_mem hi))
def clOf (Cs : List Addr) : Nat → Addr := fun i => Cs.getD i 0
def clD (a : Addr) : Nat → Addr := fun _ => a
def s_init : Stmt := match top 1 with
  | .ClassDef _ _ _ b _ _ _ _ _ _ _ => b.getD 0 (.Pass ⟨0, 0, 0, 0⟩)
  | s => s
theorem sc_init : FnScope ["self", "value"] ["self", "value"] (defScope s_init) := ⟨rfl, rfl, rfl, by decide +kernel, rfl, by decide +kernel, by decide +kernel⟩
theorem ok_init {P : Program} {w : World} {K : PySem.W.Frag} {mg : Str → Option Value} {base : Heap} {q : Str} {fI : Addr} {fd : FuncData} (F : Fun K "__init__" q s_init fI fd) : FnOk P w K mg base L2.CX0 1 fI fd ["self", "value"] (spErr K) := by
  refine F.ok sc_init (fun vs H Q E h => ?_) (fun cdv A outer s H vs Q E hr h => ⟨tOst K "value" (tVar 0) (tVar 1), pss_one (ps_ost (pv 0) (pv 1)), ?_⟩)
  · obtain ⟨a, C, v, rfl, _⟩ := h; rfl
  · obtain ⟨a, C, v, rfl, h1, h2, h3, h4⟩ := h
    exact ⟨v, rfl, .ref a, rfl, a, C, rfl, h1, h2, .inl ⟨h3, fun dx hd hne => h4 dx hd hne⟩⟩

def lsOf (cc__law_right pt__law_right : Addr) : List Lm := [⟨"_law_right", cc__law_right, pt__law_right, (("_law_right" : Str) ++ ".<locals>.") ++ "<lambda>"⟩]
theorem all_mk {P : Program} {w : World} {K : PySem.W.Frag} {h : Heap} {mg : Str → Option Value} {fI C0 C1 C2 C3 C4 : Addr} {odI anI : Option Addr} {slI : Array (Option Value)} {ocI kVI dcI pmI cdI ctI : Value} {t_MOST_AT_SLOT : _} {t_MOST_LATER : _} {t_MOST_SIZE : _} {a_WORDS : Addr} {od_WORDS : Option Addr} {sl_WORDS : Array (Option Value)} {n_WORDS : Nat} {t0_WORDS : _} {t1_WORDS : _} {t2_WORDS : _} {f0 : Addr} {od0 an0 : Option Addr} {sl0 : Array (Option Value)} {oc0 kV0 dc0 pm0 cd0 ct0 : Value} {f1 : Addr} {od1 an1 : Option Addr} {sl1 : Array (Option Value)} {oc1 kV1 dc1 pm1 cd1 ct1 : Value} {f2 : Addr} {od2 an2 : Option Addr} {sl2 : Array (Option Value)} {oc2 kV2 dc2 pm2 cd2 ct2 : Value} {f3 : Addr} {od3 an3 : Option Addr} {sl3 : Array (Option Value)} {oc3 kV3 dc3 pm3 cd3 ct3 : Value} {f4 : Addr} {od4 an4 : Option Addr} {sl4 : Array (Option Value)} {oc4 kV4 dc4 pm4 cd4 ct4 : Value} {f5 : Addr} {od5 an5 : Option Addr} {sl5 : Array (Option Value)} {oc5 kV5 dc5 pm5 cd5 ct5 : Value} {f6 : Addr} {od6 an6 : Option Addr} {sl6 : Array (Option Value)} {oc6 kV6 dc6 pm6 cd6 ct6 : Value} {f7 : Addr} {od7 an7 : Option Addr} {sl7 : Array (Option Value)} {oc7 kV7 dc7 pm7 cd7 ct7 : Value} {f8 : Addr} {od8 an8 : Option Addr} {sl8 : Array (Option Value)} {oc8 kV8 dc8 pm8 cd8 ct8 : Value} {f9 : Addr} {od9 an9 : Option Addr} {sl9 : Array (Option Value)} {oc9 kV9 dc9 pm9 cd9 ct9 : Value} {f10 : Addr} {od10 an10 : Option Addr} {sl10 : Array (Option Value)} {oc10 kV10 dc10 pm10 cd10 ct10 : Value} {f11 : Addr} {od11 an11 : Option Addr} {sl11 : Array (Option Value)} {oc11 kV11 dc11 pm11 cd11 ct11 : Value} {f12 : Addr} {od12 an12 : Option Addr} {sl12 : Array (Option Value)} {oc12 kV12 dc12 pm12 cd12 ct12 : Value} {f13 : Addr} {od13 an13 : Option Addr} {sl13 : Array (Option Value)} {oc13 kV13 dc13 pm13 cd13 ct13 : Value} {f14 : Addr} {od14 an14 : Option Addr} {sl14 : Array (Option Value)} {oc14 kV14 dc14 pm14 cd14 ct14 : Value} {f15 : Addr} {od15 an15 : Option Addr} {sl15 : Array (Option Value)} {oc15 kV15 dc15 pm15 cd15 ct15 : Value} {f16 : Addr} {od16 an16 : Option Addr} {sl16 : Array (Option Value)} {oc16 kV16 dc16 pm16 cd16 ct16 : Value} {f17 : Addr} {od17 an17 : Option Addr} {sl17 : Array (Option Value)} {oc17 kV17 dc17 pm17 cd17 ct17 : Value} {f18 : Addr} {od18 an18 : Option Addr} {sl18 : Array (Option Value)} {oc18 kV18 dc18 pm18 cd18 ct18 : Value} {f19 : Addr} {od19 an19 : Option Addr} {sl19 : Array (Option Value)} {oc19 kV19 dc19 pm19 cd19 ct19 : Value} {f20 : Addr} {od20 an20 : Option Addr} {sl20 : Array (Option Value)} {oc20 kV20 dc20 pm20 cd20 ct20 : Value} {f21 : Addr} {od21 an21 : Option Addr} {sl21 : Array (Option Value)} {oc21 kV21 dc21 pm21 cd21 ct21 : Value} {f22 : Addr} {od22 an22 : Option Addr} {sl22 : Array (Option Value)} {oc22 kV22 dc22 pm22 cd22 ct22 : Value} {f23 : Addr} {od23 an23 : Option Addr} {sl23 : Array (Option Value)} {oc23 kV23 dc23 pm23 cd23 ct23 : Value} {f24 : Addr} {od24 an24 : Option Addr} {sl24 : Array (Option Value)} {oc24 kV24 dc24 pm24 cd24 ct24 : Value} {f25 : Addr} {od25 an25 : Option Addr} {sl25 : Array (Option Value)} {oc25 kV25 dc25 pm25 cd25 ct25 : Value} {f26 : Addr} {od26 an26 : Option Addr} {sl26 : Array (Option Value)} {oc26 kV26 dc26 pm26 cd26 ct26 : Value} {f27 : Addr} {od27 an27 : Option Addr} {sl27 : Array (Option Value)} {oc27 kV27 dc27 pm27 cd27 ct27 : Value} {f28 : Addr} {od28 an28 : Option Addr} {sl28 : Array (Option Value)} {oc28 kV28 dc28 pm28 cd28 ct28 : Value} {f29 : Addr} {od29 an29 : Option Addr} {sl29 : Array (Option Value)} {oc29 kV29 dc29 pm29 cd29 ct29 : Value} {f30 : Addr} {od30 an30 : Option Addr} {sl30 : Array (Option Value)} {oc30 kV30 dc30 pm30  ct30 : Value} {f31 : Addr} {od31 an31 : Option Addr} {sl31 : Array (Option Value)} {oc31 kV31 dc31 pm31 cd31 ct31 : Value} {f32 : Addr} {od32 an32 : Option Addr} {sl32 : Array (Option Value)} {oc32 kV32 dc32 pm32 cd32 ct32 : Value} {f33 : Addr} {od33 an33 : Option Addr} {sl33 : Array (Option Value)} {oc33 kV33 dc33 pm33 cd33 ct33 : Value} {f34 : Addr} {od34 an34 : Option Addr} {sl34 : Array (Option Value)} {oc34 kV34 dc34 pm34 cd34 ct34 : Value} {cc__law_right pt__law_right : Addr} (X : K.In h) (Gn : h.Ns mainGlobals mg)
    (a_BadService : PySem.W.nsIn K mainGlobals "BadService" = some (some (.ref C0)))
    (a_BadSize : PySem.W.nsIn K mainGlobals "BadSize" = some (some (.ref C1)))
    (a_BadPair : PySem.W.nsIn K mainGlobals "BadPair" = some (some (.ref C2)))
    (a_NoPair : PySem.W.nsIn K mainGlobals "NoPair" = some (some (.ref C3)))
    (a_LoopError : PySem.W.nsIn K mainGlobals "LoopError" = some (some (.ref C4)))
    (aI : PySem.W.findIn K (.ref C4) "__init__" = some (some (.ref fI)))
    (hE : errsB K [C0, C1, C2, C3, C4] fI kb = true)
    (hX : exmB K [C0, C1, C2, C3, C4] C4 = true)
    (lI : K.lookup fI = some ⟨ocI, odI, .func (PySem.W.fnOf "__init__" "LoopError.__init__" (defArgs s_init) (defBody s_init) (defScope s_init) .none kVI dcI pmI anI cdI ctI), slI⟩) (cI : PySem.W.codeIn K cdI "LoopError.__init__" = true) (kI : PySem.W.keepIn K (.ref fI) = true)
    (b_abs : PySem.W.nsIn K mainGlobals "abs" = some none)
    (b_all : PySem.W.nsIn K mainGlobals "all" = some none)
    (b_any : PySem.W.nsIn K mainGlobals "any" = some none)
    (b_bool : PySem.W.nsIn K mainGlobals "bool" = some none)
    (b_enumerate : PySem.W.nsIn K mainGlobals "enumerate" = some none)
    (b_int : PySem.W.nsIn K mainGlobals "int" = some none)
    (b_isinstance : PySem.W.nsIn K mainGlobals "isinstance" = some none)
    (b_len : PySem.W.nsIn K mainGlobals "len" = some none)
    (b_list : PySem.W.nsIn K mainGlobals "list" = some none)
    (b_max : PySem.W.nsIn K mainGlobals "max" = some none)
    (b_min : PySem.W.nsIn K mainGlobals "min" = some none)
    (b_range : PySem.W.nsIn K mainGlobals "range" = some none)
    (b_repr : PySem.W.nsIn K mainGlobals "repr" = some none)
    (b_set : PySem.W.nsIn K mainGlobals "set" = some none)
    (b_str : PySem.W.nsIn K mainGlobals "str" = some none)
    (b_sum : PySem.W.nsIn K mainGlobals "sum" = some none)
    (b_tuple : PySem.W.nsIn K mainGlobals "tuple" = some none)
    (b_zip : PySem.W.nsIn K mainGlobals "zip" = some none)
    (v_MOST_AT_SLOT : PySem.W.nsIn K mainGlobals "MOST_AT_SLOT" = some (some (.int 4 t_MOST_AT_SLOT)))
    (v_MOST_LATER : PySem.W.nsIn K mainGlobals "MOST_LATER" = some (some (.int 400 t_MOST_LATER)))
    (v_MOST_SIZE : PySem.W.nsIn K mainGlobals "MOST_SIZE" = some (some (.int 400 t_MOST_SIZE)))
    (v_WORDS : PySem.W.nsIn K mainGlobals "WORDS" = some (some (.ref a_WORDS)))
    (l_WORDS : K.lookup a_WORDS = some ⟨.type "tuple", od_WORDS, .seq #[.str "queue" t0_WORDS, .str "order" t1_WORDS, .str "any" t2_WORDS] n_WORDS, sl_WORDS⟩)
    (a_law_take : PySem.W.nsIn K mainGlobals "_law_take" = some (some (.ref f0))) (l_law_take : K.lookup f0 = some ⟨oc0, od0, .func (PySem.W.fnOf "_law_take" "_law_take" (defArgs s__law_take) (defBody s__law_take) (defScope s__law_take) .none kV0 dc0 pm0 an0 cd0 ct0), sl0⟩) (c_law_take : PySem.W.codeIn K cd0 "_law_take" = true) (k_law_take : PySem.W.keepIn K (.ref f0) = true)
    (a_law_of : PySem.W.nsIn K mainGlobals "_law_of" = some (some (.ref f1))) (l_law_of : K.lookup f1 = some ⟨oc1, od1, .func (PySem.W.fnOf "_law_of" "_law_of" (defArgs s__law_of) (defBody s__law_of) (defScope s__law_of) .none kV1 dc1 pm1 an1 cd1 ct1), sl1⟩) (c_law_of : PySem.W.codeIn K cd1 "_law_of" = true) (k_law_of : PySem.W.keepIn K (.ref f1) = true)
    (a_law_service : PySem.W.nsIn K mainGlobals "_law_service" = some (some (.ref f2))) (l_law_service : K.lookup f2 = some ⟨oc2, od2, .func (PySem.W.fnOf "_law_service" "_law_service" (defArgs s__law_service) (defBody s__law_service) (defScope s__law_service) .none kV2 dc2 pm2 an2 cd2 ct2), sl2⟩) (c_law_service : PySem.W.codeIn K cd2 "_law_service" = true) (k_law_service : PySem.W.keepIn K (.ref f2) = true)
    (a_law_pair : PySem.W.nsIn K mainGlobals "_law_pair" = some (some (.ref f3))) (l_law_pair : K.lookup f3 = some ⟨oc3, od3, .func (PySem.W.fnOf "_law_pair" "_law_pair" (defArgs s__law_pair) (defBody s__law_pair) (defScope s__law_pair) .none kV3 dc3 pm3 an3 cd3 ct3), sl3⟩) (c_law_pair : PySem.W.codeIn K cd3 "_law_pair" = true) (k_law_pair : PySem.W.keepIn K (.ref f3) = true)
    (a_law_can_be : PySem.W.nsIn K mainGlobals "_law_can_be" = some (some (.ref f4))) (l_law_can_be : K.lookup f4 = some ⟨oc4, od4, .func (PySem.W.fnOf "_law_can_be" "_law_can_be" (defArgs s__law_can_be) (defBody s__law_can_be) (defScope s__law_can_be) .none kV4 dc4 pm4 an4 cd4 ct4), sl4⟩) (c_law_can_be : PySem.W.codeIn K cd4 "_law_can_be" = true) (k_law_can_be : PySem.W.keepIn K (.ref f4) = true)
    (ais_number : PySem.W.nsIn K mainGlobals "is_number" = some (some (.ref f5))) (lis_number : K.lookup f5 = some ⟨oc5, od5, .func (PySem.W.fnOf "is_number" "is_number" (defArgs s_is_number) (defBody s_is_number) (defScope s_is_number) .none kV5 dc5 pm5 an5 cd5 ct5), sl5⟩) (cis_number : PySem.W.codeIn K cd5 "is_number" = true) (kis_number : PySem.W.keepIn K (.ref f5) = true)
    (ais_within : PySem.W.nsIn K mainGlobals "is_within" = some (some (.ref f6))) (lis_within : K.lookup f6 = some ⟨oc6, od6, .func (PySem.W.fnOf "is_within" "is_within" (defArgs s_is_within) (defBody s_is_within) (defScope s_is_within) .none kV6 dc6 pm6 an6 cd6 ct6), sl6⟩) (cis_within : PySem.W.codeIn K cd6 "is_within" = true) (kis_within : PySem.W.keepIn K (.ref f6) = true)
    (ais_service : PySem.W.nsIn K mainGlobals "is_service" = some (some (.ref f7))) (lis_service : K.lookup f7 = some ⟨oc7, od7, .func (PySem.W.fnOf "is_service" "is_service" (defArgs s_is_service) (defBody s_is_service) (defScope s_is_service) .none kV7 dc7 pm7 an7 cd7 ct7), sl7⟩) (cis_service : PySem.W.codeIn K cd7 "is_service" = true) (kis_service : PySem.W.keepIn K (.ref f7) = true)
    (acheck_service : PySem.W.nsIn K mainGlobals "check_service" = some (some (.ref f8))) (lcheck_service : K.lookup f8 = some ⟨oc8, od8, .func (PySem.W.fnOf "check_service" "check_service" (defArgs s_check_service) (defBody s_check_service) (defScope s_check_service) .none kV8 dc8 pm8 an8 cd8 ct8), sl8⟩) (ccheck_service : PySem.W.codeIn K cd8 "check_service" = true) (kcheck_service : PySem.W.keepIn K (.ref f8) = true)
    (acheck_size : PySem.W.nsIn K mainGlobals "check_size" = some (some (.ref f9))) (lcheck_size : K.lookup f9 = some ⟨oc9, od9, .func (PySem.W.fnOf "check_size" "check_size" (defArgs s_check_size) (defBody s_check_size) (defScope s_check_size) .none kV9 dc9 pm9 an9 cd9 ct9), sl9⟩) (ccheck_size : PySem.W.codeIn K cd9 "check_size" = true) (kcheck_size : PySem.W.keepIn K (.ref f9) = true)
    (acheck_pair : PySem.W.nsIn K mainGlobals "check_pair" = some (some (.ref f10))) (lcheck_pair : K.lookup f10 = some ⟨oc10, od10, .func (PySem.W.fnOf "check_pair" "check_pair" (defArgs s_check_pair) (defBody s_check_pair) (defScope s_check_pair) .none kV10 dc10 pm10 an10 cd10 ct10), sl10⟩) (ccheck_pair : PySem.W.codeIn K cd10 "check_pair" = true) (kcheck_pair : PySem.W.keepIn K (.ref f10) = true)
    (ais_possible : PySem.W.nsIn K mainGlobals "is_possible" = some (some (.ref f11))) (lis_possible : K.lookup f11 = some ⟨oc11, od11, .func (PySem.W.fnOf "is_possible" "is_possible" (defArgs s_is_possible) (defBody s_is_possible) (defScope s_is_possible) .none kV11 dc11 pm11 an11 cd11 ct11), sl11⟩) (cis_possible : PySem.W.codeIn K cd11 "is_possible" = true) (kis_possible : PySem.W.keepIn K (.ref f11) = true)
    (acan_be : PySem.W.nsIn K mainGlobals "can_be" = some (some (.ref f12))) (lcan_be : K.lookup f12 = some ⟨oc12, od12, .func (PySem.W.fnOf "can_be" "can_be" (defArgs s_can_be) (defBody s_can_be) (defScope s_can_be) .none kV12 dc12 pm12 an12 cd12 ct12), sl12⟩) (ccan_be : PySem.W.codeIn K cd12 "can_be" = true) (kcan_be : PySem.W.keepIn K (.ref f12) = true)
    (awaits_first : PySem.W.nsIn K mainGlobals "waits_first" = some (some (.ref f13))) (lwaits_first : K.lookup f13 = some ⟨oc13, od13, .func (PySem.W.fnOf "waits_first" "waits_first" (defArgs s_waits_first) (defBody s_waits_first) (defScope s_waits_first) .none kV13 dc13 pm13 an13 cd13 ct13), sl13⟩) (cwaits_first : PySem.W.codeIn K cd13 "waits_first" = true) (kwaits_first : PySem.W.keepIn K (.ref f13) = true)
    (aslots_first : PySem.W.nsIn K mainGlobals "slots_first" = some (some (.ref f14))) (lslots_first : K.lookup f14 = some ⟨oc14, od14, .func (PySem.W.fnOf "slots_first" "slots_first" (defArgs s_slots_first) (defBody s_slots_first) (defScope s_slots_first) .none kV14 dc14 pm14 an14 cd14 ct14), sl14⟩) (cslots_first : PySem.W.codeIn K cd14 "slots_first" = true) (kslots_first : PySem.W.keepIn K (.ref f14) = true)
    (aqueue_waits : PySem.W.nsIn K mainGlobals "queue_waits" = some (some (.ref f15))) (lqueue_waits : K.lookup f15 = some ⟨oc15, od15, .func (PySem.W.fnOf "queue_waits" "queue_waits" (defArgs s_queue_waits) (defBody s_queue_waits) (defScope s_queue_waits) .none kV15 dc15 pm15 an15 cd15 ct15), sl15⟩) (cqueue_waits : PySem.W.codeIn K cd15 "queue_waits" = true) (kqueue_waits : PySem.W.keepIn K (.ref f15) = true)
    (aqueue_script : PySem.W.nsIn K mainGlobals "queue_script" = some (some (.ref f16))) (lqueue_script : K.lookup f16 = some ⟨oc16, od16, .func (PySem.W.fnOf "queue_script" "queue_script" (defArgs s_queue_script) (defBody s_queue_script) (defScope s_queue_script) .none kV16 dc16 pm16 an16 cd16 ct16), sl16⟩) (cqueue_script : PySem.W.codeIn K cd16 "queue_script" = true) (kqueue_script : PySem.W.keepIn K (.ref f16) = true)
    (apair_script : PySem.W.nsIn K mainGlobals "pair_script" = some (some (.ref f17))) (lpair_script : K.lookup f17 = some ⟨oc17, od17, .func (PySem.W.fnOf "pair_script" "pair_script" (defArgs s_pair_script) (defBody s_pair_script) (defScope s_pair_script) .none kV17 dc17 pm17 an17 cd17 ct17), sl17⟩) (cpair_script : PySem.W.codeIn K cd17 "pair_script" = true) (kpair_script : PySem.W.keepIn K (.ref f17) = true)
    (a_law_fewest_slots : PySem.W.nsIn K mainGlobals "_law_fewest_slots" = some (some (.ref f18))) (l_law_fewest_slots : K.lookup f18 = some ⟨oc18, od18, .func (PySem.W.fnOf "_law_fewest_slots" "_law_fewest_slots" (defArgs s__law_fewest_slots) (defBody s__law_fewest_slots) (defScope s__law_fewest_slots) .none kV18 dc18 pm18 an18 cd18 ct18), sl18⟩) (c_law_fewest_slots : PySem.W.codeIn K cd18 "_law_fewest_slots" = true) (k_law_fewest_slots : PySem.W.keepIn K (.ref f18) = true)
    (a_law_slot_values : PySem.W.nsIn K mainGlobals "_law_slot_values" = some (some (.ref f19))) (l_law_slot_values : K.lookup f19 = some ⟨oc19, od19, .func (PySem.W.fnOf "_law_slot_values" "_law_slot_values" (defArgs s__law_slot_values) (defBody s__law_slot_values) (defScope s__law_slot_values) .none kV19 dc19 pm19 an19 cd19 ct19), sl19⟩) (c_law_slot_values : PySem.W.codeIn K cd19 "_law_slot_values" = true) (k_law_slot_values : PySem.W.keepIn K (.ref f19) = true)
    (a_law_pairs_in : PySem.W.nsIn K mainGlobals "_law_pairs_in" = some (some (.ref f20))) (l_law_pairs_in : K.lookup f20 = some ⟨oc20, od20, .func (PySem.W.fnOf "_law_pairs_in" "_law_pairs_in" (defArgs s__law_pairs_in) (defBody s__law_pairs_in) (defScope s__law_pairs_in) .none kV20 dc20 pm20 an20 cd20 ct20), sl20⟩) (c_law_pairs_in : PySem.W.codeIn K cd20 "_law_pairs_in" = true) (k_law_pairs_in : PySem.W.keepIn K (.ref f20) = true)
    (a_law_is_int : PySem.W.nsIn K mainGlobals "_law_is_int" = some (some (.ref f21))) (l_law_is_int : K.lookup f21 = some ⟨oc21, od21, .func (PySem.W.fnOf "_law_is_int" "_law_is_int" (defArgs s__law_is_int) (defBody s__law_is_int) (defScope s__law_is_int) .none kV21 dc21 pm21 an21 cd21 ct21), sl21⟩) (c_law_is_int : PySem.W.codeIn K cd21 "_law_is_int" = true) (k_law_is_int : PySem.W.keepIn K (.ref f21) = true)
    (a_law_slot_delays : PySem.W.nsIn K mainGlobals "_law_slot_delays" = some (some (.ref f22))) (l_law_slot_delays : K.lookup f22 = some ⟨oc22, od22, .func (PySem.W.fnOf "_law_slot_delays" "_law_slot_delays" (defArgs s__law_slot_delays) (defBody s__law_slot_delays) (defScope s__law_slot_delays) .none kV22 dc22 pm22 an22 cd22 ct22), sl22⟩) (c_law_slot_delays : PySem.W.codeIn K cd22 "_law_slot_delays" = true) (k_law_slot_delays : PySem.W.keepIn K (.ref f22) = true)
    (a_law_packets : PySem.W.nsIn K mainGlobals "_law_packets" = some (some (.ref f23))) (l_law_packets : K.lookup f23 = some ⟨oc23, od23, .func (PySem.W.fnOf "_law_packets" "_law_packets" (defArgs s__law_packets) (defBody s__law_packets) (defScope s__law_packets) .none kV23 dc23 pm23 an23 cd23 ct23), sl23⟩) (c_law_packets : PySem.W.codeIn K cd23 "_law_packets" = true) (k_law_packets : PySem.W.keepIn K (.ref f23) = true)
    (a_law_can_stand : PySem.W.nsIn K mainGlobals "_law_can_stand" = some (some (.ref f24))) (l_law_can_stand : K.lookup f24 = some ⟨oc24, od24, .func (PySem.W.fnOf "_law_can_stand" "_law_can_stand" (defArgs s__law_can_stand) (defBody s__law_can_stand) (defScope s__law_can_stand) .none kV24 dc24 pm24 an24 cd24 ct24), sl24⟩) (c_law_can_stand : PySem.W.codeIn K cd24 "_law_can_stand" = true) (k_law_can_stand : PySem.W.keepIn K (.ref f24) = true)
    (a_law_all_scripts : PySem.W.nsIn K mainGlobals "_law_all_scripts" = some (some (.ref f25))) (l_law_all_scripts : K.lookup f25 = some ⟨oc25, od25, .func (PySem.W.fnOf "_law_all_scripts" "_law_all_scripts" (defArgs s__law_all_scripts) (defBody s__law_all_scripts) (defScope s__law_all_scripts) .none kV25 dc25 pm25 an25 cd25 ct25), sl25⟩) (c_law_all_scripts : PySem.W.codeIn K cd25 "_law_all_scripts" = true) (k_law_all_scripts : PySem.W.keepIn K (.ref f25) = true)
    (a_law_has_shorter : PySem.W.nsIn K mainGlobals "_law_has_shorter" = some (some (.ref f26))) (l_law_has_shorter : K.lookup f26 = some ⟨oc26, od26, .func (PySem.W.fnOf "_law_has_shorter" "_law_has_shorter" (defArgs s__law_has_shorter) (defBody s__law_has_shorter) (defScope s__law_has_shorter) .none kV26 dc26 pm26 an26 cd26 ct26), sl26⟩) (c_law_has_shorter : PySem.W.codeIn K cd26 "_law_has_shorter" = true) (k_law_has_shorter : PySem.W.keepIn K (.ref f26) = true)
    (a_law_first_wrong : PySem.W.nsIn K mainGlobals "_law_first_wrong" = some (some (.ref f27))) (l_law_first_wrong : K.lookup f27 = some ⟨oc27, od27, .func (PySem.W.fnOf "_law_first_wrong" "_law_first_wrong" (defArgs s__law_first_wrong) (defBody s__law_first_wrong) (defScope s__law_first_wrong) .none kV27 dc27 pm27 an27 cd27 ct27), sl27⟩) (c_law_first_wrong : PySem.W.codeIn K cd27 "_law_first_wrong" = true) (k_law_first_wrong : PySem.W.keepIn K (.ref f27) = true)
    (a_law_is_script : PySem.W.nsIn K mainGlobals "_law_is_script" = some (some (.ref f28))) (l_law_is_script : K.lookup f28 = some ⟨oc28, od28, .func (PySem.W.fnOf "_law_is_script" "_law_is_script" (defArgs s__law_is_script) (defBody s__law_is_script) (defScope s__law_is_script) .none kV28 dc28 pm28 an28 cd28 ct28), sl28⟩) (c_law_is_script : PySem.W.codeIn K cd28 "_law_is_script" = true) (k_law_is_script : PySem.W.keepIn K (.ref f28) = true)
    (a_law_shows : PySem.W.nsIn K mainGlobals "_law_shows" = some (some (.ref f29))) (l_law_shows : K.lookup f29 = some ⟨oc29, od29, .func (PySem.W.fnOf "_law_shows" "_law_shows" (defArgs s__law_shows) (defBody s__law_shows) (defScope s__law_shows) .none kV29 dc29 pm29 an29 cd29 ct29), sl29⟩) (c_law_shows : PySem.W.codeIn K cd29 "_law_shows" = true) (k_law_shows : PySem.W.keepIn K (.ref f29) = true)
    (a_law_right : PySem.W.nsIn K mainGlobals "_law_right" = some (some (.ref f30))) (l_law_right : K.lookup f30 = some ⟨oc30, od30, .func (PySem.W.fnOf "_law_right" "_law_right" (defArgs s__law_right) (defBody s__law_right) (defScope s__law_right) .none kV30 dc30 pm30 an30 (.ref cc__law_right) ct30), sl30⟩) (c_law_right : PySem.W.codeIn K (.ref cc__law_right) "_law_right" = true) (k_law_right : PySem.W.keepIn K (.ref f30) = true)
    (a_law_pot : PySem.W.nsIn K mainGlobals "_law_pot" = some (some (.ref f31))) (l_law_pot : K.lookup f31 = some ⟨oc31, od31, .func (PySem.W.fnOf "_law_pot" "_law_pot" (defArgs s__law_pot) (defBody s__law_pot) (defScope s__law_pot) .none kV31 dc31 pm31 an31 cd31 ct31), sl31⟩) (c_law_pot : PySem.W.codeIn K cd31 "_law_pot" = true) (k_law_pot : PySem.W.keepIn K (.ref f31) = true)
    (a_law_cells : PySem.W.nsIn K mainGlobals "_law_cells" = some (some (.ref f32))) (l_law_cells : K.lookup f32 = some ⟨oc32, od32, .func (PySem.W.fnOf "_law_cells" "_law_cells" (defArgs s__law_cells) (defBody s__law_cells) (defScope s__law_cells) .none kV32 dc32 pm32 an32 cd32 ct32), sl32⟩) (c_law_cells : PySem.W.codeIn K cd32 "_law_cells" = true) (k_law_cells : PySem.W.keepIn K (.ref f32) = true)
    (alaw : PySem.W.nsIn K mainGlobals "law" = some (some (.ref f33))) (llaw : K.lookup f33 = some ⟨oc33, od33, .func (PySem.W.fnOf "law" "law" (defArgs s_law) (defBody s_law) (defScope s_law) .none kV33 dc33 pm33 an33 cd33 ct33), sl33⟩) (claw : PySem.W.codeIn K cd33 "law" = true) (klaw : PySem.W.keepIn K (.ref f33) = true)
    (a_law_heard : PySem.W.nsIn K mainGlobals "_law_heard" = some (some (.ref f34))) (l_law_heard : K.lookup f34 = some ⟨oc34, od34, .func (PySem.W.fnOf "_law_heard" "_law_heard" (defArgs s__law_heard) (defBody s__law_heard) (defScope s__law_heard) .none kV34 dc34 pm34 an34 cd34 ct34), sl34⟩) (c_law_heard : PySem.W.codeIn K cd34 "_law_heard" = true) (k_law_heard : PySem.W.keepIn K (.ref f34) = true) (nd : ((lsOf cc__law_right pt__law_right).map (·.P)).Nodup) :
    ∀ base : Heap, K.In base → base.Ns mainGlobals mg → (∀ p ∈ (lsOf cc__law_right pt__law_right), LamX.TabB base mg p.c p.P) → Cal P w K ((lsOf cc__law_right pt__law_right).map fun p => (p.P, p.q)) mg base 10 "law" ["script"] (F_law (clOf [C0, C1, C2, C3, C4])) := by
  intro base hbase hbn hTB
  obtain ⟨e1, e2, e3⟩ := errsB_ok hE
  have G : Gx K mg (clOf [C0, C1, C2, C3, C4]) fI := { b_abs := PySem.W.mg_none_of X Gn b_abs, b_all := PySem.W.mg_none_of X Gn b_all, b_any := PySem.W.mg_none_of X Gn b_any, b_bool := PySem.W.mg_none_of X Gn b_bool, b_enumerate := PySem.W.mg_none_of X Gn b_enumerate, b_int := PySem.W.mg_none_of X Gn b_int, b_isinstance := PySem.W.mg_none_of X Gn b_isinstance, b_len := PySem.W.mg_none_of X Gn b_len, b_list := PySem.W.mg_none_of X Gn b_list, b_max := PySem.W.mg_none_of X Gn b_max, b_min := PySem.W.mg_none_of X Gn b_min, b_range := PySem.W.mg_none_of X Gn b_range, b_repr := PySem.W.mg_none_of X Gn b_repr, b_set := PySem.W.mg_none_of X Gn b_set, b_str := PySem.W.mg_none_of X Gn b_str, b_sum := PySem.W.mg_none_of X Gn b_sum, b_tuple := PySem.W.mg_none_of X Gn b_tuple, b_zip := PySem.W.mg_none_of X Gn b_zip, c_MOST_AT_SLOT := ⟨.int 4, _, PySem.W.mg_of X Gn v_MOST_AT_SLOT, ⟨_, rfl⟩, fun _ => .int _⟩, c_MOST_LATER := ⟨.int 400, _, PySem.W.mg_of X Gn v_MOST_LATER, ⟨_, rfl⟩, fun _ => .int _⟩, c_MOST_SIZE := ⟨.int 400, _, PySem.W.mg_of X Gn v_MOST_SIZE, ⟨_, rfl⟩, fun _ => .int _⟩, c_WORDS := ⟨.ref a_WORDS, _, PySem.W.mg_of X Gn v_WORDS, rfl, fun _ => .tup (xs := [.str "queue", .str "order", .str "any"]) (.inr ⟨_, _, _, l_WORDS, rfl, rfl, Nat.le_trans (Nat.le_of_eq rfl) (sz (n := 3) (by decide)), .cons ⟨_, rfl⟩ (.cons ⟨_, rfl⟩ (.cons ⟨_, rfl⟩ (.nil)))⟩) (.cons (.str _) (.cons (.str _) (.cons (.str _) (.nil))))⟩, ek := e1, ki := e2, kv := e3, n_BadService := PySem.W.mg_of X Gn a_BadService, n_BadSize := PySem.W.mg_of X Gn a_BadSize, n_BadPair := PySem.W.mg_of X Gn a_BadPair, n_NoPair := PySem.W.mg_of X Gn a_NoPair, n_LoopError := PySem.W.mg_of X Gn a_LoopError, kx := fun i hi => exmB_ok hX i hi }
  have FI : Fun K "__init__" "LoopError.__init__" s_init fI _ := fun_mk (st := s_init) lI cI kI
  have EX : Exx P w K mg base fI := ⟨_, ok_init FI, FI.binds (ps := ["self", "value"]) fun _ _ _ _ _ _ us hl => match us, hl with | [_, _], _ => rfl⟩
  have D_law_heard : Dfn K mg "_law_heard" s__law_heard none := ⟨_, _, _, _, _, _, _, _, _, _, PySem.W.mg_of X Gn a_law_heard, k_law_heard, l_law_heard, c_law_heard, fun _ z => by cases z⟩
  have H_law_heard := hrd__law_heard (P := P) (w := w) (Ts := ((lsOf cc__law_right pt__law_right).map fun p => (p.P, p.q))) (base := base) G EX D_law_heard fun _ _ _ _ _ _ us hl => match us, hl with | [_], _ => rfl
  have D_law_take : Dfn K mg "_law_take" s__law_take none := ⟨_, _, _, _, _, _, _, _, _, _, PySem.W.mg_of X Gn a_law_take, k_law_take, l_law_take, c_law_take, fun _ z => by cases z⟩
  have S_law_take := cal__law_take (P := P) (w := w) (Ts := ((lsOf cc__law_right pt__law_right).map fun p => (p.P, p.q))) (base := base) G EX D_law_take 
  have K_law_take := S_law_take.cal fun _ _ _ _ _ _ us hl => match us, hl with | [_, _], _ => rfl
  have D_law_of : Dfn K mg "_law_of" s__law_of none := ⟨_, _, _, _, _, _, _, _, _, _, PySem.W.mg_of X Gn a_law_of, k_law_of, l_law_of, c_law_of, fun _ z => by cases z⟩
  have S_law_of := cal__law_of (P := P) (w := w) (Ts := ((lsOf cc__law_right pt__law_right).map fun p => (p.P, p.q))) (base := base) G EX D_law_of K_law_take
  have K_law_of := S_law_of.cal fun _ _ _ _ _ _ us hl => match us, hl with | [_, _], _ => rfl
  have D_law_service : Dfn K mg "_law_service" s__law_service none := ⟨_, _, _, _, _, _, _, _, _, _, PySem.W.mg_of X Gn a_law_service, k_law_service, l_law_service, c_law_service, fun _ z => by cases z⟩
  have S_law_service := cal__law_service (P := P) (w := w) (Ts := ((lsOf cc__law_right pt__law_right).map fun p => (p.P, p.q))) (base := base) G EX D_law_service K_law_of
  have K_law_service := S_law_service.cal fun _ _ _ _ _ _ us hl => match us, hl with | [_], _ => rfl
  have D_law_pair : Dfn K mg "_law_pair" s__law_pair none := ⟨_, _, _, _, _, _, _, _, _, _, PySem.W.mg_of X Gn a_law_pair, k_law_pair, l_law_pair, c_law_pair, fun _ z => by cases z⟩
  have S_law_pair := cal__law_pair (P := P) (w := w) (Ts := ((lsOf cc__law_right pt__law_right).map fun p => (p.P, p.q))) (base := base) G EX D_law_pair K_law_of K_law_take
  have K_law_pair := S_law_pair.cal fun _ _ _ _ _ _ us hl => match us, hl with | [_, _, _], _ => rfl
  have D_law_can_be : Dfn K mg "_law_can_be" s__law_can_be none := ⟨_, _, _, _, _, _, _, _, _, _, PySem.W.mg_of X Gn a_law_can_be, k_law_can_be, l_law_can_be, c_law_can_be, fun _ z => by cases z⟩
  have S_law_can_be := cal__law_can_be (P := P) (w := w) (Ts := ((lsOf cc__law_right pt__law_right).map fun p => (p.P, p.q))) (base := base) G EX D_law_can_be 
  have K_law_can_be := S_law_can_be.cal fun _ _ _ _ _ _ us hl => match us, hl with | [_, _, _], _ => rfl
  have Dis_number : Dfn K mg "is_number" s_is_number none := ⟨_, _, _, _, _, _, _, _, _, _, PySem.W.mg_of X Gn ais_number, kis_number, lis_number, cis_number, fun _ z => by cases z⟩
  have Sis_number := cal_is_number (P := P) (w := w) (Ts := ((lsOf cc__law_right pt__law_right).map fun p => (p.P, p.q))) (base := base) G EX Dis_number 
  have Kis_number := Sis_number.cal fun _ _ _ _ _ _ us hl => match us, hl with | [_], _ => rfl
  have Dis_within : Dfn K mg "is_within" s_is_within none := ⟨_, _, _, _, _, _, _, _, _, _, PySem.W.mg_of X Gn ais_within, kis_within, lis_within, cis_within, fun _ z => by cases z⟩
  have Sis_within := cal_is_within (P := P) (w := w) (Ts := ((lsOf cc__law_right pt__law_right).map fun p => (p.P, p.q))) (base := base) G EX Dis_within Kis_number
  have Kis_within := Sis_within.cal fun _ _ _ _ _ _ us hl => match us, hl with | [_, _, _], _ => rfl
  have Dis_service : Dfn K mg "is_service" s_is_service none := ⟨_, _, _, _, _, _, _, _, _, _, PySem.W.mg_of X Gn ais_service, kis_service, lis_service, cis_service, fun _ z => by cases z⟩
  have Sis_service := cal_is_service (P := P) (w := w) (Ts := ((lsOf cc__law_right pt__law_right).map fun p => (p.P, p.q))) (base := base) G EX Dis_service Kis_within
  have Kis_service := Sis_service.cal fun _ _ _ _ _ _ us hl => match us, hl with | [_], _ => rfl
  have Dcheck_service : Dfn K mg "check_service" s_check_service none := ⟨_, _, _, _, _, _, _, _, _, _, PySem.W.mg_of X Gn acheck_service, kcheck_service, lcheck_service, ccheck_service, fun _ z => by cases z⟩
  have Scheck_service := cal_check_service (P := P) (w := w) (Ts := ((lsOf cc__law_right pt__law_right).map fun p => (p.P, p.q))) (base := base) G EX Dcheck_service Kis_service
  have Kcheck_service := Scheck_service.cal fun _ _ _ _ _ _ us hl => match us, hl with | [_], _ => rfl
  have Dcheck_size : Dfn K mg "check_size" s_check_size none := ⟨_, _, _, _, _, _, _, _, _, _, PySem.W.mg_of X Gn acheck_size, kcheck_size, lcheck_size, ccheck_size, fun _ z => by cases z⟩
  have Scheck_size := cal_check_size (P := P) (w := w) (Ts := ((lsOf cc__law_right pt__law_right).map fun p => (p.P, p.q))) (base := base) G EX Dcheck_size Kis_within
  have Kcheck_size := Scheck_size.cal fun _ _ _ _ _ _ us hl => match us, hl with | [_], _ => rfl
  have Dcheck_pair : Dfn K mg "check_pair" s_check_pair none := ⟨_, _, _, _, _, _, _, _, _, _, PySem.W.mg_of X Gn acheck_pair, kcheck_pair, lcheck_pair, ccheck_pair, fun _ z => by cases z⟩
  have Scheck_pair := cal_check_pair (P := P) (w := w) (Ts := ((lsOf cc__law_right pt__law_right).map fun p => (p.P, p.q))) (base := base) G EX Dcheck_pair Kis_within
  have Kcheck_pair := Scheck_pair.cal fun _ _ _ _ _ _ us hl => match us, hl with | [_, _], _ => rfl
  have Dis_possible : Dfn K mg "is_possible" s_is_possible none := ⟨_, _, _, _, _, _, _, _, _, _, PySem.W.mg_of X Gn ais_possible, kis_possible, lis_possible, cis_possible, fun _ z => by cases z⟩
  have Sis_possible := cal_is_possible (P := P) (w := w) (Ts := ((lsOf cc__law_right pt__law_right).map fun p => (p.P, p.q))) (base := base) G EX Dis_possible 
  have Kis_possible := Sis_possible.cal fun _ _ _ _ _ _ us hl => match us, hl with | [_, _], _ => rfl
  have Dcan_be : Dfn K mg "can_be" s_can_be none := ⟨_, _, _, _, _, _, _, _, _, _, PySem.W.mg_of X Gn acan_be, kcan_be, lcan_be, ccan_be, fun _ z => by cases z⟩
  have Scan_be := cal_can_be (P := P) (w := w) (Ts := ((lsOf cc__law_right pt__law_right).map fun p => (p.P, p.q))) (base := base) G EX Dcan_be Kcheck_pair Kcheck_service Kcheck_size Kis_possible
  have Kcan_be := Scan_be.cal fun _ _ _ _ _ _ us hl => match us, hl with | [_, _, _], _ => rfl
  have Dwaits_first : Dfn K mg "waits_first" s_waits_first none := ⟨_, _, _, _, _, _, _, _, _, _, PySem.W.mg_of X Gn awaits_first, kwaits_first, lwaits_first, cwaits_first, fun _ z => by cases z⟩
  have Swaits_first := cal_waits_first (P := P) (w := w) (Ts := ((lsOf cc__law_right pt__law_right).map fun p => (p.P, p.q))) (base := base) G EX Dwaits_first 
  have Kwaits_first := Swaits_first.cal fun _ _ _ _ _ _ us hl => match us, hl with | [_, _], _ => rfl
  have Dslots_first : Dfn K mg "slots_first" s_slots_first none := ⟨_, _, _, _, _, _, _, _, _, _, PySem.W.mg_of X Gn aslots_first, kslots_first, lslots_first, cslots_first, fun _ z => by cases z⟩
  have Sslots_first := cal_slots_first (P := P) (w := w) (Ts := ((lsOf cc__law_right pt__law_right).map fun p => (p.P, p.q))) (base := base) G EX Dslots_first Kwaits_first
  have Kslots_first := Sslots_first.cal fun _ _ _ _ _ _ us hl => match us, hl with | [_, _], _ => rfl
  have Dqueue_waits : Dfn K mg "queue_waits" s_queue_waits none := ⟨_, _, _, _, _, _, _, _, _, _, PySem.W.mg_of X Gn aqueue_waits, kqueue_waits, lqueue_waits, cqueue_waits, fun _ z => by cases z⟩
  have Squeue_waits := cal_queue_waits (P := P) (w := w) (Ts := ((lsOf cc__law_right pt__law_right).map fun p => (p.P, p.q))) (base := base) G EX Dqueue_waits Kslots_first Kwaits_first
  have Kqueue_waits := Squeue_waits.cal fun _ _ _ _ _ _ us hl => match us, hl with | [_, _], _ => rfl
  have Dqueue_script : Dfn K mg "queue_script" s_queue_script none := ⟨_, _, _, _, _, _, _, _, _, _, PySem.W.mg_of X Gn aqueue_script, kqueue_script, lqueue_script, cqueue_script, fun _ z => by cases z⟩
  have Squeue_script := cal_queue_script (P := P) (w := w) (Ts := ((lsOf cc__law_right pt__law_right).map fun p => (p.P, p.q))) (base := base) G EX Dqueue_script Kqueue_waits Kslots_first
  have Kqueue_script := Squeue_script.cal fun _ _ _ _ _ _ us hl => match us, hl with | [_, _], _ => rfl
  have Dpair_script : Dfn K mg "pair_script" s_pair_script none := ⟨_, _, _, _, _, _, _, _, _, _, PySem.W.mg_of X Gn apair_script, kpair_script, lpair_script, cpair_script, fun _ z => by cases z⟩
  have Spair_script := cal_pair_script (P := P) (w := w) (Ts := ((lsOf cc__law_right pt__law_right).map fun p => (p.P, p.q))) (base := base) G EX Dpair_script Kcan_be Kqueue_script
  have Kpair_script := Spair_script.cal fun _ _ _ _ _ _ us hl => match us, hl with | [_, _, _], _ => rfl
  have Kpair_script_K120 := Spair_script.kw (ks := ["pair", "service", "size"]) (pk := [1, 2, 0]) fun _ _ _ _ _ _ us hl => match us, hl with | [_, _, _], _ => rfl
  have D_law_fewest_slots : Dfn K mg "_law_fewest_slots" s__law_fewest_slots none := ⟨_, _, _, _, _, _, _, _, _, _, PySem.W.mg_of X Gn a_law_fewest_slots, k_law_fewest_slots, l_law_fewest_slots, c_law_fewest_slots, fun _ z => by cases z⟩
  have S_law_fewest_slots := cal__law_fewest_slots (P := P) (w := w) (Ts := ((lsOf cc__law_right pt__law_right).map fun p => (p.P, p.q))) (base := base) G EX D_law_fewest_slots 
  have K_law_fewest_slots := S_law_fewest_slots.cal fun _ _ _ _ _ _ us hl => match us, hl with | [_, _], _ => rfl
  have D_law_slot_values : Dfn K mg "_law_slot_values" s__law_slot_values none := ⟨_, _, _, _, _, _, _, _, _, _, PySem.W.mg_of X Gn a_law_slot_values, k_law_slot_values, l_law_slot_values, c_law_slot_values, fun _ z => by cases z⟩
  have S_law_slot_values := cal__law_slot_values (P := P) (w := w) (Ts := ((lsOf cc__law_right pt__law_right).map fun p => (p.P, p.q))) (base := base) G EX D_law_slot_values 
  have K_law_slot_values := S_law_slot_values.cal fun _ _ _ _ _ _ us hl => match us, hl with | [_, _], _ => rfl
  have D_law_pairs_in : Dfn K mg "_law_pairs_in" s__law_pairs_in none := ⟨_, _, _, _, _, _, _, _, _, _, PySem.W.mg_of X Gn a_law_pairs_in, k_law_pairs_in, l_law_pairs_in, c_law_pairs_in, fun _ z => by cases z⟩
  have S_law_pairs_in := cal__law_pairs_in (P := P) (w := w) (Ts := ((lsOf cc__law_right pt__law_right).map fun p => (p.P, p.q))) (base := base) G EX D_law_pairs_in 
  have K_law_pairs_in := S_law_pairs_in.cal fun _ _ _ _ _ _ us hl => match us, hl with | [_], _ => rfl
  have D_law_is_int : Dfn K mg "_law_is_int" s__law_is_int none := ⟨_, _, _, _, _, _, _, _, _, _, PySem.W.mg_of X Gn a_law_is_int, k_law_is_int, l_law_is_int, c_law_is_int, fun _ z => by cases z⟩
  have S_law_is_int := cal__law_is_int (P := P) (w := w) (Ts := ((lsOf cc__law_right pt__law_right).map fun p => (p.P, p.q))) (base := base) G EX D_law_is_int 
  have K_law_is_int := S_law_is_int.cal fun _ _ _ _ _ _ us hl => match us, hl with | [_, _, _], _ => rfl
  have D_law_slot_delays : Dfn K mg "_law_slot_delays" s__law_slot_delays none := ⟨_, _, _, _, _, _, _, _, _, _, PySem.W.mg_of X Gn a_law_slot_delays, k_law_slot_delays, l_law_slot_delays, c_law_slot_delays, fun _ z => by cases z⟩
  have S_law_slot_delays := cal__law_slot_delays (P := P) (w := w) (Ts := ((lsOf cc__law_right pt__law_right).map fun p => (p.P, p.q))) (base := base) G EX D_law_slot_delays K_law_is_int
  have K_law_slot_delays := S_law_slot_delays.cal fun _ _ _ _ _ _ us hl => match us, hl with | [_, _, _, _], _ => rfl
  have D_law_packets : Dfn K mg "_law_packets" s__law_packets none := ⟨_, _, _, _, _, _, _, _, _, _, PySem.W.mg_of X Gn a_law_packets, k_law_packets, l_law_packets, c_law_packets, fun _ z => by cases z⟩
  have S_law_packets := cal__law_packets (P := P) (w := w) (Ts := ((lsOf cc__law_right pt__law_right).map fun p => (p.P, p.q))) (base := base) G EX D_law_packets K_law_slot_delays
  have K_law_packets := S_law_packets.cal fun _ _ _ _ _ _ us hl => match us, hl with | [_, _], _ => rfl
  have D_law_can_stand : Dfn K mg "_law_can_stand" s__law_can_stand none := ⟨_, _, _, _, _, _, _, _, _, _, PySem.W.mg_of X Gn a_law_can_stand, k_law_can_stand, l_law_can_stand, c_law_can_stand, fun _ z => by cases z⟩
  have S_law_can_stand := cal__law_can_stand (P := P) (w := w) (Ts := ((lsOf cc__law_right pt__law_right).map fun p => (p.P, p.q))) (base := base) G EX D_law_can_stand K_law_is_int K_law_slot_delays
  have K_law_can_stand := S_law_can_stand.cal fun _ _ _ _ _ _ us hl => match us, hl with | [_, _, _, _, _], _ => rfl
  have D_law_all_scripts : Dfn K mg "_law_all_scripts" s__law_all_scripts none := ⟨_, _, _, _, _, _, _, _, _, _, PySem.W.mg_of X Gn a_law_all_scripts, k_law_all_scripts, l_law_all_scripts, c_law_all_scripts, fun _ z => by cases z⟩
  have S_law_all_scripts := cal__law_all_scripts (P := P) (w := w) (Ts := ((lsOf cc__law_right pt__law_right).map fun p => (p.P, p.q))) (base := base) G EX D_law_all_scripts K_law_can_stand K_law_packets K_law_slot_values
  have K_law_all_scripts := S_law_all_scripts.cal fun _ _ _ _ _ _ us hl => match us, hl with | [_, _, _], _ => rfl
  have D_law_has_shorter : Dfn K mg "_law_has_shorter" s__law_has_shorter none := ⟨_, _, _, _, _, _, _, _, _, _, PySem.W.mg_of X Gn a_law_has_shorter, k_law_has_shorter, l_law_has_shorter, c_law_has_shorter, fun _ z => by cases z⟩
  have S_law_has_shorter := cal__law_has_shorter (P := P) (w := w) (Ts := ((lsOf cc__law_right pt__law_right).map fun p => (p.P, p.q))) (base := base) G EX D_law_has_shorter K_law_all_scripts K_law_fewest_slots K_law_packets K_law_pairs_in K_law_slot_values
  have K_law_has_shorter := S_law_has_shorter.cal fun _ _ _ _ _ _ us hl => match us, hl with | [_, _, _], _ => rfl
  have D_law_first_wrong : Dfn K mg "_law_first_wrong" s__law_first_wrong none := ⟨_, _, _, _, _, _, _, _, _, _, PySem.W.mg_of X Gn a_law_first_wrong, k_law_first_wrong, l_law_first_wrong, c_law_first_wrong, fun _ z => by cases z⟩
  have S_law_first_wrong := cal__law_first_wrong (P := P) (w := w) (Ts := ((lsOf cc__law_right pt__law_right).map fun p => (p.P, p.q))) (base := base) G EX D_law_first_wrong K_law_can_stand K_law_slot_delays
  have K_law_first_wrong := S_law_first_wrong.cal fun _ _ _ _ _ _ us hl => match us, hl with | [_, _, _], _ => rfl
  have D_law_is_script : Dfn K mg "_law_is_script" s__law_is_script none := ⟨_, _, _, _, _, _, _, _, _, _, PySem.W.mg_of X Gn a_law_is_script, k_law_is_script, l_law_is_script, c_law_is_script, fun _ z => by cases z⟩
  have S_law_is_script := cal__law_is_script (P := P) (w := w) (Ts := ((lsOf cc__law_right pt__law_right).map fun p => (p.P, p.q))) (base := base) G EX D_law_is_script K_law_first_wrong
  have K_law_is_script := S_law_is_script.cal fun _ _ _ _ _ _ us hl => match us, hl with | [_, _, _], _ => rfl
  have D_law_shows : Dfn K mg "_law_shows" s__law_shows none := ⟨_, _, _, _, _, _, _, _, _, _, PySem.W.mg_of X Gn a_law_shows, k_law_shows, l_law_shows, c_law_shows, fun _ z => by cases z⟩
  have S_law_shows := cal__law_shows (P := P) (w := w) (Ts := ((lsOf cc__law_right pt__law_right).map fun p => (p.P, p.q))) (base := base) G EX D_law_shows K_law_fewest_slots K_law_is_int K_law_is_script K_law_packets
  have K_law_shows := S_law_shows.cal fun _ _ _ _ _ _ us hl => match us, hl with | [_, _, _, _], _ => rfl
  have M_law_right : (⟨"_law_right", cc__law_right, pt__law_right, (("_law_right" : Str) ++ ".<locals>.") ++ "<lambda>"⟩ : Lm) ∈ (lsOf cc__law_right pt__law_right) := .head _
  have D_law_right : Dfn K mg "_law_right" s__law_right (some cc__law_right) := ⟨_, _, _, _, _, _, _, _, _, _, PySem.W.mg_of X Gn a_law_right, k_law_right, l_law_right, c_law_right, fun _ z => by cases z; rfl⟩
  have S_law_right := cal__law_right (P := P) (w := w) (Ts := ((lsOf cc__law_right pt__law_right).map fun p => (p.P, p.q))) (base := base) G EX (hTB _ M_law_right) (List.mem_map.mpr ⟨_, M_law_right, rfl⟩) (hu_of nd M_law_right) D_law_right K_law_can_be K_law_has_shorter K_law_pair K_law_service K_law_shows K_law_take H_law_heard Kpair_script_K120
  have K_law_right := S_law_right.cal fun _ _ _ _ _ _ us hl => match us, hl with | [_], _ => rfl
  have D_law_pot : Dfn K mg "_law_pot" s__law_pot none := ⟨_, _, _, _, _, _, _, _, _, _, PySem.W.mg_of X Gn a_law_pot, k_law_pot, l_law_pot, c_law_pot, fun _ z => by cases z⟩
  have S_law_pot := cal__law_pot (P := P) (w := w) (Ts := ((lsOf cc__law_right pt__law_right).map fun p => (p.P, p.q))) (base := base) G EX D_law_pot 
  have K_law_pot := S_law_pot.cal fun _ _ _ _ _ _ us hl => match us, hl with | [_, _], _ => rfl
  have D_law_cells : Dfn K mg "_law_cells" s__law_cells none := ⟨_, _, _, _, _, _, _, _, _, _, PySem.W.mg_of X Gn a_law_cells, k_law_cells, l_law_cells, c_law_cells, fun _ z => by cases z⟩
  have S_law_cells := cal__law_cells (P := P) (w := w) (Ts := ((lsOf cc__law_right pt__law_right).map fun p => (p.P, p.q))) (base := base) G EX D_law_cells 
  have K_law_cells := S_law_cells.cal fun _ _ _ _ _ _ us hl => match us, hl with | [_, _], _ => rfl
  have Dlaw : Dfn K mg "law" s_law none := ⟨_, _, _, _, _, _, _, _, _, _, PySem.W.mg_of X Gn alaw, klaw, llaw, claw, fun _ z => by cases z⟩
  have Slaw := cal_law (P := P) (w := w) (Ts := ((lsOf cc__law_right pt__law_right).map fun p => (p.P, p.q))) (base := base) G EX Dlaw K_law_cells K_law_pot K_law_right
  have Klaw := Slaw.cal fun _ _ _ _ _ _ us hl => match us, hl with | [_], _ => rfl
  exact Klaw
theorem law_end {q : Program} {XP : (Str → Option Value) → Heap → Prop} {YP : World → Heap → Prop} {d : DefRec} {K : Params → PySem.W.Frag} {cc__law_right pt__law_right : Addr} (hd : d.params.defaults = []) (hY : ∀ (w : World) (h : Heap), YP w h → (K w.params).In h) (cl : Nat → Addr) (hr__law_right : ((PyProof.Rows.recsOf q).find? fun e => e.name == ("_law_right" : Str)).isSome = true) (ht__law_right : ∀ w : World, PySem.W.tabIn (K w.params) "_law_right" = some (cc__law_right, pt__law_right)) (hn__law_right : ∀ w : World, (K w.params).lookup pt__law_right = none) (nd : ((lsOf cc__law_right pt__law_right).map (·.P)).Nodup)
    (hf : ∀ (w : World) (mg : Str → Option Value) (h : Heap), (K w.params).In h → h.Ns mainGlobals mg → ∀ base : Heap, (K w.params).In base → base.Ns mainGlobals mg → (∀ p ∈ (lsOf cc__law_right pt__law_right), LamX.TabB base mg p.c p.P) → Cal PySem.Challenge.rw_queueloops_k17_whole_scripts_of_pairs.prog w (K w.params) ((lsOf cc__law_right pt__law_right).map fun p => (p.P, p.q)) mg base 10 d.name ["script"] (F_law cl)) :
    PySem.W.WalkO q [] XP YP PySem.Challenge.rw_queueloops_k17_whole_scripts_of_pairs.row.toRowW d [] (fun f vs => PySem.call f vs) := by
  have e1 : PySem.Challenge.rw_queueloops_k17_whole_scripts_of_pairs.most = some 63 := by kernel_rfl
  have e2 : 63 ≤ sizeLine := by rw [sizeLine_eq]; decide
  have hrec : ∀ p ∈ (lsOf cc__law_right pt__law_right), ((PyProof.Rows.recsOf q).find? fun e => e.name == p.x).isSome = true := by
    intro p hp
    simp only [lsOf, List.mem_cons, List.not_mem_nil, or_false] at hp
    rcases hp with rfl
    · exact hr__law_right
  have htab : ∀ (w : World), ∀ p ∈ (lsOf cc__law_right pt__law_right), PySem.W.tabIn (K w.params) p.x = some (p.c, p.P) ∧ (K w.params).lookup p.P = none := by
    intro w p hp
    simp only [lsOf, List.mem_cons, List.not_mem_nil, or_false] at hp
    rcases hp with rfl
    · exact ⟨ht__law_right w, hn__law_right w⟩
  exact DL.law_walks (K := K) (F := fun _ => F_law cl) (ls := (lsOf cc__law_right pt__law_right)) e1 e2 hd ⟨by decide, by decide, by decide⟩ hY nd hrec htab (fun w mg h a b base c d e => hf w mg h a b base c d e) (fun w ns _ _ => pure_ok)
end Lk
open PySem PySem.W PyProof.Rows
set_option Elab.async false
set_option maxRecDepth 100000 in
set_option maxHeartbeats 0 in
theorem PySem.Challenge.cw_queueloops_k17_whole_scripts_of_pairs_holds : PySem.Challenge.rw_queueloops_k17_whole_scripts_of_pairs.Holds := by
  w_on; o_law; k_head; (case hw => w_witness2)
  k_fill
  refine' Lk.law_end rfl (fun w h Y => PySem.W.km_in_of Y) (Lk.clOf _) ?hr0 ?ht0 ?hn0 ?nd ?F
  case ht0 =>
    intro w
    refine' Lk.tab_by ?z1 ?z2 ?z3 ?z4
    (case z1 => k_is)
    (case z2 => k_is)
    (case z3 => k_is)
    (case z4 => rfl)
  case hr0 => kernel_rfl
  case hn0 => intro w; kernel_rfl
  case nd => decide
  case F =>
    intro w mg h KX G
    refine' Lk.all_mk KX G ?x0 ?x1 ?x2 ?x3 ?x4 ?x5 ?x6 ?x7 ?x8 ?x9 ?x10 ?x11 ?x12 ?x13 ?x14 ?x15 ?x16 ?x17 ?x18 ?x19 ?x20 ?x21 ?x22 ?x23 ?x24 ?x25 ?x26 ?x27 ?x28 ?x29 ?x30 ?x31 ?x32 ?x33 ?x34 ?x35 ?x36 ?x37 ?x38 ?x39 ?x40 ?x41 ?x42 ?x43 ?x44 ?x45 ?x46 ?x47 ?x48 ?x49 ?x50 ?x51 ?x52 ?x53 ?x54 ?x55 ?x56 ?x57 ?x58 ?x59 ?x60 ?x61 ?x62 ?x63 ?x64 ?x65 ?x66 ?x67 ?x68 ?x69 ?x70 ?x71 ?x72 ?x73 ?x74 ?x75 ?x76 ?x77 ?x78 ?x79 ?x80 ?x81 ?x82 ?x83 ?x84 ?x85 ?x86 ?x87 ?x88 ?x89 ?x90 ?x91 ?x92 ?x93 ?x94 ?x95 ?x96 ?x97 ?x98 ?x99 ?x100 ?x101 ?x102 ?x103 ?x104 ?x105 ?x106 ?x107 ?x108 ?x109 ?x110 ?x111 ?x112 ?x113 ?x114 ?x115 ?x116 ?x117 ?x118 ?x119 ?x120 ?x121 ?x122 ?x123 ?x124 ?x125 ?x126 ?x127 ?x128 ?x129 ?x130 ?x131 ?x132 ?x133 ?x134 ?x135 ?x136 ?x137 ?x138 ?x139 ?x140 ?x141 ?x142 ?x143 ?x144 ?x145 ?x146 ?x147 ?x148 ?x149 ?x150 ?x151 ?x152 ?x153 ?x154 ?x155 ?x156 ?x157 ?x158 ?x159 ?x160 ?x161 ?x162 ?x163 ?x164 ?x165 ?x166 ?x167 ?x168 ?x169 ?x170 ?x171 ?x172 ?x173 ?nd2
    (case x0 => k_is)
    (case x1 => k_is)
    (case x2 => k_is)
    (case x3 => k_is)
    (case x4 => k_is)
    (case x5 => k_is)
    (case x8 => k_is)
    (case x9 => k_is)
    (case x10 => k_is)
    (case x11 => k_is)
    (case x12 => k_is)
    (case x13 => k_is)
    (case x14 => k_is)
    (case x15 => k_is)
    (case x16 => k_is)
    (case x17 => k_is)
    (case x18 => k_is)
    (case x19 => k_is)
    (case x20 => k_is)
    (case x21 => k_is)
    (case x22 => k_is)
    (case x23 => k_is)
    (case x24 => k_is)
    (case x25 => k_is)
    (case x26 => k_is)
    (case x27 => k_is)
    (case x28 => k_is)
    (case x29 => k_is)
    (case x30 => k_is)
    (case x31 => k_is)
    (case x32 => k_is)
    (case x33 => k_is)
    (case x34 => k_is)
    (case x35 => k_is)
    (case x36 => k_is)
    (case x37 => k_is)
    (case x38 => k_is)
    (case x39 => k_is)
    (case x40 => k_is)
    (case x41 => k_is)
    (case x42 => k_is)
    (case x43 => k_is)
    (case x44 => k_is)
    (case x45 => k_is)
    (case x46 => k_is)
    (case x47 => k_is)
    (case x48 => k_is)
    (case x49 => k_is)
    (case x50 => k_is)
    (case x51 => k_is)
    (case x52 => k_is)
    (case x53 => k_is)
    (case x54 => k_is)
    (case x55 => k_is)
    (case x56 => k_is)
    (case x57 => k_is)
    (case x58 => k_is)
    (case x59 => k_is)
    (case x60 => k_is)
    (case x61 => k_is)
    (case x62 => k_is)
    (case x63 => k_is)
    (case x64 => k_is)
    (case x65 => k_is)
    (case x66 => k_is)
    (case x67 => k_is)
    (case x68 => k_is)
    (case x69 => k_is)
    (case x70 => k_is)
    (case x71 => k_is)
    (case x72 => k_is)
    (case x73 => k_is)
    (case x74 => k_is)
    (case x75 => k_is)
    (case x76 => k_is)
    (case x77 => k_is)
    (case x78 => k_is)
    (case x79 => k_is)
    (case x80 => k_is)
    (case x81 => k_is)
    (case x82 => k_is)
    (case x83 => k_is)
    (case x84 => k_is)
    (case x85 => k_is)
    (case x86 => k_is)
    (case x87 => k_is)
    (case x88 => k_is)
    (case x89 => k_is)
    (case x90 => k_is)
    (case x91 => k_is)
    (case x92 => k_is)
    (case x93 => k_is)
    (case x94 => k_is)
    (case x95 => k_is)
    (case x96 => k_is)
    (case x97 => k_is)
    (case x98 => k_is)
    (case x99 => k_is)
    (case x100 => k_is)
    (case x101 => k_is)
    (case x102 => k_is)
    (case x103 => k_is)
    (case x104 => k_is)
    (case x105 => k_is)
    (case x106 => k_is)
    (case x107 => k_is)
    (case x108 => k_is)
    (case x109 => k_is)
    (case x110 => k_is)
    (case x111 => k_is)
    (case x112 => k_is)
    (case x113 => k_is)
    (case x114 => k_is)
    (case x115 => k_is)
    (case x116 => k_is)
    (case x117 => k_is)
    (case x118 => k_is)
    (case x119 => k_is)
    (case x120 => k_is)
    (case x121 => k_is)
    (case x122 => k_is)
    (case x123 => k_is)
    (case x124 => k_is)
    (case x125 => k_is)
    (case x126 => k_is)
    (case x127 => k_is)
    (case x128 => k_is)
    (case x129 => k_is)
    (case x130 => k_is)
    (case x131 => k_is)
    (case x132 => k_is)
    (case x133 => k_is)
    (case x134 => k_is)
    (case x135 => k_is)
    (case x136 => k_is)
    (case x137 => k_is)
    (case x138 => k_is)
    (case x139 => k_is)
    (case x140 => k_is)
    (case x141 => k_is)
    (case x142 => k_is)
    (case x143 => k_is)
    (case x144 => k_is)
    (case x145 => k_is)
    (case x146 => k_is)
    (case x147 => k_is)
    (case x148 => k_is)
    (case x149 => k_is)
    (case x150 => k_is)
    (case x151 => k_is)
    (case x152 => k_is)
    (case x153 => k_is)
    (case x154 => k_is)
    (case x155 => k_is)
    (case x156 => k_is)
    (case x157 => k_is)
    (case x158 => k_is)
    (case x159 => k_is)
    (case x160 => k_is)
    (case x161 => k_is)
    (case x162 => k_is)
    (case x163 => k_is)
    (case x164 => k_is)
    (case x165 => k_is)
    (case x166 => k_is)
    (case x167 => k_is)
    (case x168 => k_is)
    (case x169 => k_is)
    (case x170 => k_is)
    (case x171 => k_is)
    (case x172 => k_is)
    (case x173 => k_is)
    (case x6 => kernel_rfl)
    (case x7 => kernel_rfl)
    (case nd2 => decide)

