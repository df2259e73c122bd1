import PyProof.Rows.All
import Wide.All
import OpenK.AllK
import Wide.FinOn
import HandS.ForMost
import HandS.ExcInit
import HandS.Lambda
import HandS.WordsExc
import HandS.TupAny
import HandS.WideBits
import HandS.Wide
import HandS.Flow
import HandS.SortInts
import HandS.Conv
import HandS.Style
import HandS.Zip
import HandS.EndBits
import KE.KNest
import HandS.IsInst
import KE.KExcIs
import HandS.ExcField
import HandS.ExcValue
import PyProof.Rows.CountFlat
import HandS.DictComp
import PyProof.ReprRoads
import HandS.Dict
import KE.GoesEnum
import KE.GoesMore
import HandS.TupMul
import KE.SortData
import KE.GoesZip
import KE.DataMinMax
import PyProof.Rows.SetFrom
import HandS.Finally
import HandS.More
import HandS.Text
import PyProof.DictUpdate
import OpenK.KOps
import HandS.ExcOwn
import KE.GoesEnumKw
import HandS.StrMore
import HandS.SetFor
import HandS.TupLe
import HandS.List
import PySem.Challenge.RW_queueloops_k01_lines_of_no_device
import LGe
import PyProof.ReprLen
set_option Elab.async false
set_option linter.all false
set_option maxRecDepth 100000
set_option maxHeartbeats 2000000
/-! DL: readings over plain data. A value of the program is told by a datum (PD), the slots of a def by what they hold (SD), so that what is left of a def's body speaks of data alone. -/
namespace DL
open PySem L2

/-- a datum: what can no longer change -/
inductive PD where
  | non | bl (b : Bool) | int (i : Int) | str (s : Str)
  | lst (xs : List PD) | tup (xs : List PD)
  /-- the script -/
  | scr (ns : List Int)
  | dct (kvs : List (Key × PD))
  | ins (C : Addr) (fs : List (Str × PD))
  | err (C : Addr) (v : PD)
  /-- a function, made when g was stable -/
  | fn (f : Addr) (g : Hp)
/-- a thing that may still change -/
inductive OD where
  | lst (xs : List PD)
  | dK (kvs : List (Key × PD))
  | dT (kvs : List (List Key × PD))
def OD.pd : OD → Option PD
  | .lst xs => some (.lst xs)
  | .dK kvs => some (.dct kvs)
  | .dT _ => none
/-- what a slot holds -/
inductive SD where
  | emp | dat (d : PD) | own (o : OD)
abbrev Sl := List SD
/-- what an expression gives: a datum, a new thing of one's own, or the thing of a slot -/
inductive Rz where
  | dat (d : PD) | own (o : OD) | bor (i : Nat)

/-- no table of code objects -/
def Nt (o : HO) : Prop := ∀ ps, o ≠ .tbl ps
theorem nt_lst {xs : List V} : Nt (.lst xs) := fun _ z => by cases z
theorem nt_tup {xs : List V} : Nt (.tup xs) := fun _ z => by cases z
theorem nt_dK {xs : List (Key × V)} : Nt (.dK xs) := fun _ z => by cases z
theorem nt_xd {xs : List (Str × V)} : Nt (.xd xs) := fun _ z => by cases z
theorem nt_frz {o : Obj} {u : HO} : Nt (.frz o u) := fun _ z => by cases z
theorem nt_ext {φ : Heap → Prop} : Nt (.ext φ) := fun _ z => by cases z
theorem nt_exo {e C : Addr} {d : Option Addr} : Nt (exo e C d) := nt_ext
theorem nt_exd {dx : Addr} {fs : List (Str × V)} : Nt (exd dx fs) := nt_ext
/-- what a slot may own -/
def Ow : HO → Prop
  | .lst _ => True
  | .dK _ => True
  | .ins _ _ _ => True
  | .own _ => True
  | _ => False
theorem Ow.nt : ∀ {o : HO}, Ow o → Nt o := fun {o} h ps z => by subst z; exact h
/-- tracked, and no table -/
def Tr (H : Hp) (a : Addr) : Prop := ∃ o, H a = some o ∧ Nt o
theorem Tr.no {H : Hp} {a : Addr} (t : Tr H a) (h : H a = none) : False := by obtain ⟨o, e, _⟩ := t; rw [h] at e; cases e
theorem Tr.upd {H : Hp} {a p : Addr} {o : HO} (t : Tr H a) (h : a ≠ p) : Tr (L2.upd H p o) a := by obtain ⟨u, e, n⟩ := t; exact ⟨u, by rw [upd_ne h]; exact e, n⟩
/-- all but tables of code objects stay -/
def Ex (H H' : Hp) : Prop := ∀ a o, H a = some o → Nt o → H' a = some o
theorem Ex.refl (H : Hp) : Ex H H := fun _ _ h _ => h
theorem Ex.trans {H H1 H2 : Hp} (a : Ex H H1) (b : Ex H1 H2) : Ex H H2 := fun x o h n => b x o (a x o h n) n
theorem Ex.new {H : Hp} {p : Addr} {o : HO} (h : H p = none) : Ex H (upd H p o) := fun a u e _ => by
  rw [upd_ne (ne_of_none e h)]; exact e
theorem Ex.both {H H' : Hp} {p : Addr} {o : HO} (e : Ex H H') (hn : H p = none) : Ex (upd H p o) (upd H' p o) := fun a u h n => by
  by_cases hp : a = p
  · subst hp; rw [upd_same] at h ⊢; exact h
  · rw [upd_ne hp] at h ⊢; exact e a u h n
theorem Ex.right {H H' : Hp} {p : Addr} {o : HO} (e : Ex H H') (hn : H p = none) : Ex H (upd H' p o) := fun a u h n => by
  rw [upd_ne (ne_of_none h hn)]; exact e a u h n
/-- the tables of code objects that are known: their marks in G -/
def Tb (G H : Hp) : Prop := ∀ a ps, G a = some (.tbl ps) → ∃ q t, ps = #[Value.str q t] ∧ LamX.TabS H a q
theorem tabS_new {H : Hp} {P p : Addr} {q : Str} {o : HO} (t : LamX.TabS H P q) (h : H p = none) : LamX.TabS (upd H p o) P q := t.ext fun a u e => by
  rw [upd_ne (ne_of_none e h)]; exact e
theorem tabS_put {H : Hp} {P p : Addr} {q : Str} {o o' : HO} (t : LamX.TabS H P q) (h : H p = some o) (n1 : Nt o) (n2 : ∀ c q, o ≠ LamX.CodeO c q) : LamX.TabS (upd H p o') P q := by
  obtain ⟨ps, h1, h2, h3⟩ := t
  have np : P ≠ p := fun z => by rw [z, h] at h1; exact n1 _ (Option.some.inj h1)
  refine ⟨ps, by rw [upd_ne np]; exact h1, h2, fun pos cv hc => ?_⟩
  obtain ⟨c, e1, e2⟩ := h3 pos cv hc
  exact ⟨c, e1, by rw [upd_ne (fun z => by rw [z, h] at e2; exact n2 _ _ (Option.some.inj e2))]; exact e2⟩
theorem Tb.new {G H : Hp} {p : Addr} {o : HO} (t : Tb G H) (h : H p = none) : Tb G (upd H p o) := fun a ps e => let ⟨q, k, e1, e2⟩ := t a ps e; ⟨q, k, e1, tabS_new e2 h⟩
theorem Tb.put {G H : Hp} {p : Addr} {o o' : HO} (t : Tb G H) (h : H p = some o) (n1 : Nt o) (n2 : ∀ c q, o ≠ LamX.CodeO c q) : Tb G (upd H p o') := fun a ps e => let ⟨q, k, e1, e2⟩ := t a ps e; ⟨q, k, e1, tabS_put e2 h n1 n2⟩
theorem mark_old {G : Hp} {p a : Addr} {o : HO} {ps : Array Value} (n : Nt o) (h : upd G p o a = some (.tbl ps)) : G a = some (.tbl ps) := by
  by_cases z : a = p
  · subst z; rw [upd_same] at h; exact absurd (Option.some.inj h) (n ps)
  · rw [upd_ne z] at h; exact h
/-- a new thing is marked in G, which is no table -/
theorem Tb.mark {G H : Hp} {p : Addr} {o : HO} (t : Tb G H) (n : Nt o) : Tb (upd G p o) H := fun a ps e => by
  by_cases z : a = p
  · subst z; rw [upd_same] at e; exact absurd (Option.some.inj e) (n ps)
  · rw [upd_ne z] at e; exact t a ps e
theorem Ex.free {H H' : Hp} {p : Addr} (e : Ex H H') (t : Tb H H') (h : H' p = none) : H p = none := by
  cases h1 : H p with
  | none => rfl
  | some o =>
    by_cases n : Nt o
    · rw [e p o h1 n] at h; cases h
    · obtain ⟨ps, hps⟩ := Classical.not_forall.mp n
      have hps : o = .tbl ps := Classical.not_not.mp hps
      subst hps
      obtain ⟨q, k, _, qs, h2, _⟩ := t p ps h1
      rw [h2] at h; cases h
theorem ex_l {K : PySem.W.Frag} {H H' : Hp} {a : Addr} {xs : List V} (e : Ex H H') (h : SqL K H a xs) : SqL K H' a xs := by
  rcases h with (h | ⟨o, h⟩) | h
  · exact Or.inl (Or.inl (e a _ h nt_lst))
  · exact Or.inl (Or.inr ⟨o, e a _ h nt_frz⟩)
  · exact Or.inr h
theorem ex_t {K : PySem.W.Frag} {H H' : Hp} {a : Addr} {xs : List V} (e : Ex H H') (h : SqT K H a xs) : SqT K H' a xs := by
  rcases h with (h | ⟨o, h⟩) | h
  · exact Or.inl (Or.inl (e a _ h nt_tup))
  · exact Or.inl (Or.inr ⟨o, e a _ h nt_frz⟩)
  · exact Or.inr h

/-- an exception, whatever its traceback is -/
def exa (e C : Addr) (d : Option Addr) : HO := .ext fun h => ∃ (oe : Obj) (vs : Array Value), h.get? e = some oe ∧ Zc (.ref C) d oe ∧ oe.data = .fields vs
/-- what is tracked of an own error: as it was made, or as it was caught -/
inductive ErrO (a C d : Addr) : HO → Prop
  | made : ErrO a C d (exo a C (some d))
  | had : ErrO a C d (exa a C (some d))
inductive ErrD (d : Addr) (fs : List (Str × V)) : HO → Prop
  | made : ErrD d fs (exd d fs)
  | had : ErrD d fs (.xd fs)
theorem ErrO.nt {a C d : Addr} {o : HO} : ErrO a C d o → Nt o
  | .made => nt_ext
  | .had => nt_ext
theorem ErrD.nt {d : Addr} {fs : List (Str × V)} {o : HO} : ErrD d fs o → Nt o
  | .made => nt_ext
  | .had => nt_xd
mutual
inductive Rp (K : PySem.W.Frag) (G : Hp) : V → PD → Prop
  | non : Rp K G .non .non
  | bl (b : Bool) : Rp K G (.bl b) (.bl b)
  | int (i : Int) : Rp K G (.int i) (.int i)
  | str (x : Str) : Rp K G (.str x) (.str x)
  | lst {a : Addr} {xs : List V} {ds : List PD} : G a = some (.lst xs) → RpAll K G xs ds → Rp K G (.ref a) (.lst ds)
  | scr {a : Addr} {ns : List Int} : SqL K G a (ns.map V.int) → Rp K G (.ref a) (.scr ns)
  | tup {a : Addr} {xs : List V} {ds : List PD} : SqT K G a xs → RpAll K G xs ds → Rp K G (.ref a) (.tup ds)
  | dct {a : Addr} {kvs : List (Key × V)} {kds : List (Key × PD)} : G a = some (.dK kvs) → RpKv K G kvs kds → Rp K G (.ref a) (.dct kds)
  /-- an own error, made: its class, its value -/
  | err {a C d : Addr} {o od : HO} {fs : List (Str × V)} {v : V} {u : PD} : G a = some o → G d = some od → ErrO a C d o → ErrD d fs od → fs.lookup ("value" : Str) = some v → Rp K G v u → Rp K G (.ref a) (.err C u)
  | fn {f : Addr} {g : Hp} : Ex g G → Rp K G (.ref f) (.fn f g)
  | ins {a C dx : Addr} {vfs : List (Str × V)} {fs : List (Str × PD)} : G a = some (.ins C dx vfs) → G dx = some (.own a) → RpKv K G (vfs.map fun p => ((Sum.inr p.1 : Key), p.2)) (fs.map fun p => ((Sum.inr p.1 : Key), p.2)) → Rp K G (.ref a) (.ins C fs)
inductive RpAll (K : PySem.W.Frag) (G : Hp) : List V → List PD → Prop
  | nil : RpAll K G [] []
  | cons {v : V} {vs : List V} {d : PD} {ds : List PD} : Rp K G v d → RpAll K G vs ds → RpAll K G (v :: vs) (d :: ds)
inductive RpKv (K : PySem.W.Frag) (G : Hp) : List (Key × V) → List (Key × PD) → Prop
  | nil : RpKv K G [] []
  | cons {k : Key} {v : V} {vs : List (Key × V)} {d : PD} {ds : List (Key × PD)} : Rp K G v d → RpKv K G vs ds → RpKv K G ((k, v) :: vs) ((k, d) :: ds)
end
section
variable {K : PySem.W.Frag} {G G' : Hp}
mutual
theorem Rp.mono (e : Ex G G') : ∀ {v : V} {d : PD}, Rp K G v d → Rp K G' v d
  | _, _, .non => .non
  | _, _, .bl b => .bl b
  | _, _, .int i => .int i
  | _, _, .str x => .str x
  | _, _, .lst h r => .lst (e _ _ h nt_lst) (RpAll.mono e r)
  | _, _, .scr h => .scr (ex_l e h)
  | _, _, .tup h r => .tup (ex_t e h) (RpAll.mono e r)
  | _, _, .dct h r => .dct (e _ _ h nt_dK) (RpKv.mono e r)
  | _, _, .err h1 h2 t1 t2 h3 r => .err (e _ _ h1 t1.nt) (e _ _ h2 t2.nt) t1 t2 h3 (Rp.mono e r)
  | _, _, .fn h => .fn (h.trans e)
  | _, _, .ins h1 h2 r => .ins (e _ _ h1 fun _ z => by cases z) (e _ _ h2 fun _ z => by cases z) (RpKv.mono e r)
theorem RpAll.mono (e : Ex G G') : ∀ {vs : List V} {ds : List PD}, RpAll K G vs ds → RpAll K G' vs ds
  | _, _, .nil => .nil
  | _, _, .cons h r => .cons (Rp.mono e h) (RpAll.mono e r)
theorem RpKv.mono (e : Ex G G') : ∀ {vs : List (Key × V)} {ds : List (Key × PD)}, RpKv K G vs ds → RpKv K G' vs ds
  | _, _, .nil => .nil
  | _, _, .cons h r => .cons (Rp.mono e h) (RpKv.mono e r)
end
theorem RpAll.length : ∀ {vs : List V} {ds : List PD}, RpAll K G vs ds → vs.length = ds.length
  | _, _, .nil => rfl
  | _, _, .cons _ r => congrArg (· + 1) (RpAll.length r)
theorem RpAll.append : ∀ {vs ws : List V} {ds es : List PD}, RpAll K G vs ds → RpAll K G ws es → RpAll K G (vs ++ ws) (ds ++ es)
  | _, _, _, _, .nil, s => s
  | _, _, _, _, .cons h r, s => .cons h (RpAll.append r s)
theorem RpAll.get : ∀ {vs : List V} {ds : List PD} {i : Nat} {d : PD}, RpAll K G vs ds → ds[i]? = some d → ∃ v, vs[i]? = some v ∧ Rp K G v d
  | _, _, _, _, .nil, e => by simp at e
  | _, _, 0, _, .cons h _, e => by simp at e; subst e; exact ⟨_, rfl, h⟩
  | _, _, i + 1, d, .cons _ r, e => by
    obtain ⟨v, h1, h2⟩ := RpAll.get (i := i) (d := d) r (by simpa using e)
    exact ⟨v, by simpa using h1, h2⟩
theorem RpAll.set {v : V} {d : PD} (h : Rp K G v d) : ∀ {vs : List V} {ds : List PD} (i : Nat), RpAll K G vs ds → RpAll K G (vs.set i v) (ds.set i d)
  | _, _, _, .nil => .nil
  | _, _, 0, .cons _ r => .cons h r
  | _, _, i + 1, .cons q r => .cons q (RpAll.set h i r)
theorem RpAll.take : ∀ {vs : List V} {ds : List PD} (n : Nat), RpAll K G vs ds → RpAll K G (vs.take n) (ds.take n)
  | _, _, 0, _ => .nil
  | _, _, _ + 1, .nil => .nil
  | _, _, n + 1, .cons h r => .cons h (RpAll.take n r)
theorem RpAll.drop : ∀ {vs : List V} {ds : List PD} (n : Nat), RpAll K G vs ds → RpAll K G (vs.drop n) (ds.drop n)
  | _, _, 0, r => r
  | _, _, _ + 1, .nil => .nil
  | _, _, n + 1, .cons _ r => RpAll.drop n r
theorem RpAll.eraseIdx : ∀ {vs : List V} {ds : List PD} (n : Nat), RpAll K G vs ds → RpAll K G (vs.eraseIdx n) (ds.eraseIdx n)
  | _, _, _, .nil => .nil
  | _, _, 0, .cons _ r => r
  | _, _, n + 1, .cons h r => .cons h (RpAll.eraseIdx n r)
theorem RpAll.dropLast {vs : List V} {ds : List PD} (r : RpAll K G vs ds) : RpAll K G vs.dropLast ds.dropLast := by
  rw [List.dropLast_eq_take, List.dropLast_eq_take, r.length]
  exact r.take _
theorem RpAll.ints : ∀ {vs : List V} {ns : List Int}, RpAll K G vs (ns.map PD.int) → vs = ns.map V.int
  | _, [], .nil => rfl
  | _, n :: ns, .cons (.int _) r => by rw [List.map_cons, RpAll.ints r]
theorem rp_ints : ∀ (ns : List Int), RpAll K G (ns.map V.int) (ns.map PD.int)
  | [] => .nil
  | n :: ns => .cons (.int n) (rp_ints ns)
end

/-- a thing that may change, as it stands -/
inductive RO (K : PySem.W.Frag) (G : Hp) : HO → OD → Prop
  | lst {vs : List V} {ds : List PD} : RpAll K G vs ds → RO K G (.lst vs) (.lst ds)
  | dK {vs : List (Key × V)} {ds : List (Key × PD)} : RpKv K G vs ds → RO K G (.dK vs) (.dK ds)
theorem RO.nt {K : PySem.W.Frag} {G : Hp} : ∀ {o : HO} {d : OD}, RO K G o d → Nt o
  | _, _, .lst _ => nt_lst
  | _, _, .dK _ => nt_dK
theorem RO.ow {K : PySem.W.Frag} {G : Hp} : ∀ {o : HO} {d : OD}, RO K G o d → Ow o
  | _, _, .lst _ => True.intro
  | _, _, .dK _ => True.intro
theorem RO.nc {K : PySem.W.Frag} {G : Hp} : ∀ {o : HO} {d : OD}, RO K G o d → ∀ c q, o ≠ LamX.CodeO c q
  | _, _, .lst _ => fun _ _ z => by unfold LamX.CodeO at z; cases z
  | _, _, .dK _ => fun _ _ z => by unfold LamX.CodeO at z; cases z
theorem RO.mono {K : PySem.W.Frag} {G G' : Hp} (e : Ex G G') : ∀ {o : HO} {d : OD}, RO K G o d → RO K G' o d
  | _, _, .lst r => .lst (r.mono e)
  | _, _, .dK r => .dK (r.mono e)

structure Stp (B : Addr → Prop) (G H G' H' : Hp) : Prop where
  g : Ex G G'
  t : ∀ a ps, G a = some (.tbl ps) → G' a = some (.tbl ps)
  u : ∀ a ps, G' a = some (.tbl ps) → G a = some (.tbl ps)
  h : ∀ a o, B a → H a = some o → Nt o → H' a = some o
  n : ∀ a o, B a → H a = some o → Ow o → G' a = G a
theorem Stp.refl {B : Addr → Prop} {G H : Hp} : Stp B G H G H := ⟨Ex.refl G, fun _ _ h => h, fun _ _ h => h, fun _ _ _ h _ => h, fun _ _ _ _ _ => rfl⟩
theorem Stp.trans {B : Addr → Prop} {G H G1 H1 G2 H2 : Hp} (a : Stp B G H G1 H1) (b : Stp B G1 H1 G2 H2) : Stp B G H G2 H2 :=
  ⟨a.g.trans b.g, fun x ps h => b.t x ps (a.t x ps h), fun x ps h => a.u x ps (b.u x ps h), fun x o hb h n => b.h x o hb (a.h x o hb h n) n, fun x o hb h w => (b.n x o hb (a.h x o hb h w.nt) w).trans (a.n x o hb h w)⟩
theorem Stp.weak {B B' : Addr → Prop} {G H G1 H1 : Hp} (a : Stp B' G H G1 H1) (w : ∀ x, B x → B' x) : Stp B G H G1 H1 :=
  ⟨a.g, a.t, a.u, fun x o hb h => a.h x o (w x hb) h, fun x o hb => a.n x o (w x hb)⟩
/-- what stands through a def's body: the written part F, the tables T of code objects (with the names of what is made there), and the entry: what must not be changed, the stable part, the heap -/
structure KT where
  F : PySem.W.Frag
  T : List (Addr × Str)
  B0 : Addr → Prop
  G0 : Hp
  H0 : Hp
instance : Coe KT PySem.W.Frag := ⟨KT.F⟩
/-- the same, at another entry -/
abbrev KT.at (K : KT) (B : Addr → Prop) (G H : Hp) : KT := ⟨K.F, K.T, B, G, H⟩
/-- since the entry -/
structure Zt (K : KT) (B : Addr → Prop) (G H : Hp) : Prop where
  b : ∀ a, K.B0 a → B a
  s : Stp K.B0 K.G0 K.H0 G H
  m : ∀ p ∈ K.T, G p.1 = some (.tbl #[Value.str p.2 0])
  m2 : ∀ a ps, G a = some (.tbl ps) → ∃ p ∈ K.T, p.1 = a
theorem Zt.step {K : KT} {B : Addr → Prop} {G H G' H' : Hp} (z : Zt K B G H) (S : Stp B G H G' H') : Zt K B G' H' := ⟨z.b, z.s.trans (S.weak z.b), fun p hp => S.t _ _ (z.m p hp), fun a ps h => z.m2 a ps (S.u a ps h)⟩
theorem Zt.more {K : KT} {B B' : Addr → Prop} {G H : Hp} (z : Zt K B G H) (h : ∀ a, B a → B' a) : Zt K B' G H := ⟨fun a k => h a (z.b a k), z.s, z.m, z.m2⟩
theorem Zt.new {K : KT} {B B' : Addr → Prop} {G H : Hp} (z : Zt K B G H) : Zt (K.at B' G H) B' G H := ⟨fun _ h => h, .refl, z.m, z.m2⟩
/-- the slots, the stable part G of the heap, the heap H; B: what must not be changed -/
structure Rep (K : KT) (B : Addr → Prop) (G H : Hp) (σ : L2.St) (ρ : Sl) : Prop where
  gh : Ex G H
  tb : Tb G H
  z : Zt K B G H
  bh : ∀ a, B a → Tr H a
  len : σ.length = ρ.length
  dat : ∀ (i : Nat) (d : PD), ρ[i]? = some (SD.dat d) → ∃ v, σ[i]? = some (some v) ∧ Rp K G v d
  own : ∀ (i : Nat) (o : OD), ρ[i]? = some (SD.own o) → ∃ p ho, σ[i]? = some (some (V.ref p)) ∧ H p = some ho ∧ G p = none ∧ ¬ B p ∧ RO K G ho o
  sep : ∀ (i j : Nat) (o u : OD) (p : Addr), ρ[i]? = some (SD.own o) → ρ[j]? = some (SD.own u) → σ[i]? = some (some (V.ref p)) → σ[j]? = some (some (V.ref p)) → i = j
/-- a result -/
inductive RR (K : KT) (B : Addr → Prop) (G H : Hp) (σ : L2.St) (ρ : Sl) : V → Rz → Prop
  | dat {v : V} {d : PD} : Rp K G v d → RR K B G H σ ρ v (.dat d)
  | own {p : Addr} {ho : HO} {o : OD} : H p = some ho → G p = none → ¬ B p → RO K G ho o → (∀ (i : Nat) (u : OD), ρ[i]? = some (SD.own u) → σ[i]? ≠ some (some (V.ref p))) → RR K B G H σ ρ (.ref p) (.own o)
  | bor {v : V} {i : Nat} : σ[i]? = some (some v) → RR K B G H σ ρ v (.bor i)

section
variable {K : KT} {B : Addr → Prop} {G H G' H' : Hp} {σ : L2.St} {ρ : Sl}
/-- a thing of one's own at p is made stable -/
theorem Rep.stable {p : Addr} {ho : HO} {o : OD} {d : PD} (r : Rep K B G H σ ρ) (hp : H p = some ho) (hg : G p = none) (hb : ¬ B p) (ro : RO K G ho o) (hd : o.pd = some d)
    (hs : ∀ (i : Nat) (u : OD), ρ[i]? = some (SD.own u) → σ[i]? ≠ some (some (V.ref p))) : Rep K B (upd G p ho) H σ ρ ∧ Rp K (upd G p ho) (V.ref p) d ∧ Stp B G H (upd G p ho) H := by
  have e : Ex G (upd G p ho) := Ex.new hg
  have nt : Nt ho := ro.nt
  have S : Stp B G H (upd G p ho) H := ⟨e, fun a ps h => by rw [upd_ne (ne_of_none h hg)]; exact h, fun a ps h => mark_old nt h, fun _ _ _ h _ => h, fun a _ hb' _ _ => upd_ne fun z => hb (z ▸ hb')⟩
  refine ⟨⟨fun a u h n => ?_, r.tb.mark nt, r.z.step S, r.bh, r.len, fun i d h => ?_, fun i o h => ?_, r.sep⟩, ?_, S⟩
  · by_cases z : a = p
    · subst z; rw [upd_same] at h; cases h; exact hp
    · rw [upd_ne z] at h; exact r.gh a u h n
  · obtain ⟨v, h1, h2⟩ := r.dat i d h
    exact ⟨v, h1, h2.mono e⟩
  · obtain ⟨q, hq, h1, h2, h3, h4, h5⟩ := r.own i o h
    refine ⟨q, hq, h1, h2, ?_, h4, h5.mono e⟩
    rw [upd_ne (fun z => hs i o h (by rw [h1, z]))]; exact h3
  · cases ro with
    | lst q => cases hd; exact .lst upd_same (q.mono e)
    | dK q => cases hd; exact .dct upd_same (q.mono e)
/-- the slot i, that holds a thing of its own, is made stable -/
theorem Rep.freeze {i : Nat} {o : OD} {d : PD} (r : Rep K B G H σ ρ) (hi : ρ[i]? = some (SD.own o)) (hd : o.pd = some d) :
    ∃ v G', σ[i]? = some (some v) ∧ Rep K B G' H σ (ρ.set i (SD.dat d)) ∧ Rp K G' v d ∧ Stp B G H G' H := by
  obtain ⟨p, ho, h1, h2, h3, h4, h5⟩ := r.own i o hi
  have hil : i < ρ.length := (List.getElem?_eq_some_iff.mp hi).1
  have get : ∀ j, j ≠ i → (ρ.set i (SD.dat d))[j]? = ρ[j]? := fun j hj => List.getElem?_set_ne (Ne.symm hj)
  have r1 : Rep K B G H σ (ρ.set i SD.emp) := by
    refine ⟨r.gh, r.tb, r.z, r.bh, by rw [List.length_set]; exact r.len, fun j d' h => ?_, fun j o' h => ?_, fun j k o' u q a b c d' => ?_⟩
    · by_cases z : j = i
      · subst z; rw [List.getElem?_set_self hil] at h; cases h
      · rw [List.getElem?_set_ne (Ne.symm z)] at h; exact r.dat j d' h
    · by_cases z : j = i
      · subst z; rw [List.getElem?_set_self hil] at h; cases h
      · rw [List.getElem?_set_ne (Ne.symm z)] at h; exact r.own j o' h
    · by_cases z : j = i
      · subst z; rw [List.getElem?_set_self hil] at a; cases a
      · by_cases z' : k = i
        · subst z'; rw [List.getElem?_set_self hil] at b; cases b
        · rw [List.getElem?_set_ne (Ne.symm z)] at a
          rw [List.getElem?_set_ne (Ne.symm z')] at b
          exact r.sep j k o' u q a b c d'
  obtain ⟨a, b, c⟩ := r1.stable h2 h3 h4 h5 hd (fun j u hj hz => by
    by_cases z : j = i
    · subst z; rw [List.getElem?_set_self hil] at hj; cases hj
    · rw [List.getElem?_set_ne (Ne.symm z)] at hj
      exact z (r.sep j i u o p hj hi hz h1))
  refine ⟨.ref p, _, h1, ⟨a.gh, a.tb, a.z, a.bh, by rw [List.length_set]; exact r.len, fun j d' h => ?_, fun j o' h => ?_, fun j k o' u q x y z w => ?_⟩, b, c⟩
  · by_cases z : j = i
    · subst z; rw [List.getElem?_set_self hil] at h; cases h; exact ⟨_, h1, b⟩
    · rw [List.getElem?_set_ne (Ne.symm z)] at h
      exact a.dat j d' (by rw [List.getElem?_set_ne (Ne.symm z)]; exact h)
  · by_cases z : j = i
    · subst z; rw [List.getElem?_set_self hil] at h; cases h
    · rw [List.getElem?_set_ne (Ne.symm z)] at h
      exact a.own j o' (by rw [List.getElem?_set_ne (Ne.symm z)]; exact h)
  · by_cases z1 : j = i
    · subst z1; rw [List.getElem?_set_self hil] at x; cases x
    · by_cases z2 : k = i
      · subst z2; rw [List.getElem?_set_self hil] at y; cases y
      · rw [List.getElem?_set_ne (Ne.symm z1)] at x
        rw [List.getElem?_set_ne (Ne.symm z2)] at y
        exact r.sep j k o' u q x y z w
end
/-- an exception's way out: the class, the value -/
abbrev Xp := Addr → PD → Prop
def noX : Xp := fun _ _ => False
/-- how what is wanted of data (Ξ) makes what is wanted of the machine (W), of an exception that leaves behind the entry B0, G0, H0 -/
def Lk (KF : PySem.W.Frag) (B0 : Addr → Prop) (G0 H0 : Hp) (Ξ : Xp) (W : WX) : Prop := ∀ (G H : Hp) (σ : L2.St) (C d : Addr) (fs : List (Str × V)) (v : V) (u : PD), Stp B0 G0 H0 G H → (∀ a, B0 a → Tr H a) → Tb G H → Ex G H → H d = some (.xd fs) → G d = some (.xd fs) → fs.lookup ("value" : Str) = some v → Rp KF G v u → Ξ C u → W (.ref C) (some d) σ H
theorem lk_no {KF : PySem.W.Frag} {B0 : Addr → Prop} {G0 H0 : Hp} {W : WX} : Lk KF B0 G0 H0 noX W := fun _ _ _ _ _ _ _ _ _ _ _ _ _ _ _ _ h => h.elim
/-- the context, with what stands through it and what is wanted of an exception that leaves it -/
structure CxT where
  cx : Cx
  T : List (Addr × Str)
  B0 : Addr → Prop
  G0 : Hp
  H0 : Hp
  Ξ : Xp
  W : WX
  po : PassesOwn (model cx.prog cx.w) cx.A cx.env cx.xe
  tk : Takes cx W
  lk : Lk cx.K B0 G0 H0 Ξ W
instance : Coe CxT Cx := ⟨CxT.cx⟩
namespace CxT
variable (X : CxT)
abbrev K : KT := ⟨X.cx.K, X.T, X.B0, X.G0, X.H0⟩
abbrev prog : Program := X.cx.prog
abbrev w : World := X.cx.w
abbrev mg : Str → Option Value := X.cx.mg
abbrev base : Heap := X.cx.base
abbrev A : Around := X.cx.A
abbrev N : List Str := X.cx.N
abbrev s_0 : Shared := X.cx.s_0
abbrev H_0 : Hp := X.cx.H_0
abbrev env : PySem.Env := X.cx.env
abbrev stack : List PySem.Env := X.cx.stack
abbrev fn : Str → Bool := X.cx.fn
abbrev fs : List Addr := X.cx.fs
abbrev ex : List Addr := X.cx.ex
abbrev outer : List PySem.Env := X.cx.outer
abbrev calm : Bool := X.cx.calm
abbrev xe : Value → Shared → Prop := X.cx.xe
/-- a comprehension's block -/
abbrev blk (s : Shared) (H : Hp) (scope : Scope) (cenv : PySem.Env) (fp : List Addr) : CxT :=
  ⟨X.cx.blk s H scope cenv fp, X.T, X.B0, X.G0, X.H0, noX, fun _ _ _ _ => False, PassesOwn.never, takes0, lk_no⟩
end CxT
end DL

set_option Elab.async false
set_option linter.all false
set_option maxRecDepth 100000
set_option maxHeartbeats 2000000
namespace DL
open PySem L2

abbrev We := Sl → (Rz → Sl → Prop) → Prop
abbrev Wt := Sl → (Bool → Sl → Prop) → Prop
abbrev Wa := Sl → (List Rz → Sl → Prop) → Prop

def WE (K : KT) (te : TE) (w : We) : Prop := ∀ (B : Addr → Prop) (G H : Hp) (σ : L2.St) (ρ : Sl) (Q : Rz → Sl → Prop) (QV : VK), Rep K B G H σ ρ → w ρ Q →
  (∀ v G' H' ρ' r, Stp B G H G' H' → Rep K B G' H' σ ρ' → RR K B G' H' σ ρ' v r → Q r ρ' → QV v H') → te σ H QV
def WTt (K : KT) (tt : TT) (w : Wt) : Prop := ∀ (B : Addr → Prop) (G H : Hp) (σ : L2.St) (ρ : Sl) (Q : Bool → Sl → Prop) (QV : Bool → Hp → Prop), Rep K B G H σ ρ → w ρ Q →
  (∀ b G' H' ρ', Stp B G H G' H' → Rep K B G' H' σ ρ' → Q b ρ' → QV b H') → tt σ H QV
/-- a result that stays as it is while others are reckoned -/
def Rz.cold : Rz → Bool
  | .own _ => false
  | _ => true
inductive RRs (K : KT) (B : Addr → Prop) (G H : Hp) (σ : L2.St) (ρ : Sl) : List V → List Rz → Prop
  | nil : RRs K B G H σ ρ [] []
  | cons {v : V} {vs : List V} {r : Rz} {rs : List Rz} : RR K B G H σ ρ v r → r.cold = true → RRs K B G H σ ρ vs rs → RRs K B G H σ ρ (v :: vs) (r :: rs)
def WAa (K : KT) (ta : TA) (w : Wa) : Prop := ∀ (B : Addr → Prop) (G H : Hp) (σ : L2.St) (ρ : Sl) (Q : List Rz → Sl → Prop) (QV : List V → Hp → Prop), Rep K B G H σ ρ → w ρ Q →
  (∀ vs G' H' ρ' rs, Stp B G H G' H' → Rep K B G' H' σ ρ' → RRs K B G' H' σ ρ' vs rs → Q rs ρ' → QV vs H') → ta σ H QV
structure DE (X : CxT) (e : Expr) (te : TE) (w : We) : Prop where
  pe : PE X e te
  we : WE X.K te w
structure DT (X : CxT) (e : Expr) (tt : TT) (w : Wt) : Prop where
  pt : PT X e tt
  wt : WTt X.K tt w
structure DA (X : CxT) (es : List Expr) (ta : TA) (w : Wa) : Prop where
  pa : PA X es ta
  wa : WAa X.K ta w

/-! ### a result, read -/
def SD.pd : SD → Option PD
  | .emp => none
  | .dat d => some d
  | .own o => o.pd
def Rz.pd (r : Rz) (ρ : Sl) : Option PD := match r with
  | .dat d => some d
  | .own o => o.pd
  | .bor i => (ρ[i]?).bind SD.pd
def ok {α : Type} (o : Option α) (k : α → Prop) : Prop := match o with
  | some a => k a
  | none => False
def look (r : Rz) (ρ : Sl) (k : PD → Prop) : Prop := ok (r.pd ρ) k
/-- a result, frozen: a temporary becomes a datum -/
def Rz.cool : Rz → Rz
  | .own o => match o.pd with
    | some d => .dat d
    | none => .dat .non
  | r => r
/-- how a value is seen: a datum, or a thing that may change as it stands now -/
def Vw (K : KT) (G H : Hp) (v : V) (d : PD) : Prop := Rp K G v d ∨ ∃ p ho o, v = .ref p ∧ H p = some ho ∧ RO K G ho o ∧ o.pd = some d

theorem ok_some {α : Type} {o : Option α} {k : α → Prop} (h : ok o k) : ∃ a, o = some a ∧ k a := by
  cases o with
  | none => exact h.elim
  | some a => exact ⟨a, rfl, h⟩
section
variable {K : KT} {B : Addr → Prop} {G H G' H' : Hp} {σ : L2.St} {ρ ρ' : Sl} {v : V} {r : Rz} {d : PD}
theorem RR.vw (R : Rep K B G H σ ρ) (h : RR K B G H σ ρ v r) (e : r.pd ρ = some d) : Vw K G H v d := by
  cases h with
  | dat q => cases e; exact .inl q
  | own h1 h2 h3 h4 h5 => exact .inr ⟨_, _, _, rfl, h1, h4, e⟩
  | bor q =>
    rename_i i
    have e : (ρ[i]?).bind SD.pd = some d := e
    cases hi : ρ[i]? with
    | none => rw [hi] at e; cases e
    | some s =>
      rw [hi] at e
      cases s with
      | emp => cases e
      | dat d' =>
        obtain ⟨w, h1, h2⟩ := R.dat _ _ hi
        rw [q] at h1; cases h1
        cases e
        exact .inl h2
      | own o =>
        obtain ⟨p, ho, h1, h2, h3, h4, h5⟩ := R.own _ _ hi
        rw [q] at h1; cases h1
        exact .inr ⟨p, ho, o, rfl, h2, h5, e⟩
theorem RR.cool (R : Rep K B G H σ ρ) (h : RR K B G H σ ρ v r) (hd : r.cold = true ∨ ∃ d, r.pd ρ = some d) : ∃ G1, Stp B G H G1 H ∧ Rep K B G1 H σ ρ ∧ RR K B G1 H σ ρ v r.cool ∧ r.cool.cold = true ∧ ∀ ρ1, r.cool.pd ρ1 = r.pd ρ1 := by
  cases h with
  | dat q => exact ⟨G, .refl, R, .dat q, rfl, fun _ => rfl⟩
  | bor q => exact ⟨G, .refl, R, .bor q, rfl, fun _ => rfl⟩
  | own h1 h2 h3 h4 h5 =>
    rename_i p ho o
    obtain ⟨d, e⟩ : ∃ d, o.pd = some d := by
      rcases hd with z | ⟨d, z⟩
      · cases z
      · exact ⟨d, z⟩
    obtain ⟨a, b, c⟩ := R.stable h1 h2 h3 h4 e h5
    have ec : (Rz.own o).cool = .dat d := by show (match o.pd with | some d => Rz.dat d | none => .dat .non) = _; rw [e]
    rw [ec]
    exact ⟨_, c, a, .dat b, rfl, fun _ => e.symm⟩
theorem RR.stay (h : RR K B G H σ ρ v r) (hc : r.cold = true) (e : Ex G G') : RR K B G' H' σ ρ' v r := by
  cases h with
  | dat q => exact .dat (q.mono e)
  | bor q => exact .bor q
  | own => cases hc
theorem RRs.stay : ∀ {vs : List V} {rs : List Rz}, RRs K B G H σ ρ vs rs → Ex G G' → RRs K B G' H' σ ρ' vs rs
  | _, _, .nil, _ => .nil
  | _, _, .cons h c t, e => .cons (h.stay c e) c (RRs.stay t e)
end

/-! ### names, constants -/
section
variable {X : CxT} {K : KT}
def wVar (i : Nat) : We := fun ρ Q => match ρ[i]? with
  | some (.dat d) => Q (.dat d) ρ
  | some (.own _) => Q (.bor i) ρ
  | _ => False
theorem we_var {i : Nat} : WE K (tVar i) (wVar i) := fun B G H σ ρ Q QV R h k => by
  unfold wVar at h
  cases hi : ρ[i]? with
  | none => rw [hi] at h; exact h.elim
  | some s =>
    rw [hi] at h
    cases s with
    | emp => exact h.elim
    | dat d =>
      obtain ⟨v, h1, h2⟩ := R.dat _ _ hi
      exact ⟨v, h1, k v G H ρ _ .refl R (.dat h2) h⟩
    | own o =>
      obtain ⟨p, ho, h1, _⟩ := R.own _ _ hi
      exact ⟨_, h1, k _ G H ρ _ .refl R (.bor h1) h⟩
def wC (d : PD) : We := fun ρ Q => Q (.dat d) ρ
theorem we_c {v : V} {d : PD} (h : ∀ G, Rp K G v d) : WE K (tC v) (wC d) := fun B G H σ ρ Q QV R q k => k v G H ρ _ .refl R (.dat (h G)) q
theorem de_int {i j pos} : DE X (.Constant (.int i) j pos) (tC (.int i)) (wC (.int i)) := ⟨pe_int, we_c fun _ => .int i⟩
theorem de_bl {b j pos} : DE X (.Constant (.bool b) j pos) (tC (.bl b)) (wC (.bl b)) := ⟨pe_bl, we_c fun _ => .bl b⟩
theorem de_non {j pos} : DE X (.Constant .none j pos) (tC .non) (wC .non) := ⟨pe_non, we_c fun _ => .non⟩
theorem de_str {x j pos} : DE X (.Constant (.str x) j pos) (tC (.str x)) (wC (.str x)) := ⟨pe_str, we_c fun _ => .str x⟩
theorem dv (i : Nat) {x : Str} {pos : Pos} (hN : X.N[i]? = some x := by rfl) (hv : Vis X.env.scope x := by first | exact Or.inl rfl | exact Or.inr (Or.inl rfl) | exact Or.inr (Or.inr rfl)) (hd : (x == ("__debug__" : Str)) = false := by decide)
    (hcd : (x == ("__classdict__" : Str)) = false := by decide) : DE X (.Name x pos) (tVar i) (wVar i) := ⟨pe_var hN hv hd hcd, we_var⟩
/-- a constant of the module -/
theorem de_glob {x : Str} {v : V} {u : Value} {d : PD} {pos : Pos} (hg : Gl X x) (hm : X.mg x = some u) (r : RelV v u) (h : ∀ G, Rp X.K G v d) (hd : (x == ("__debug__" : Str)) = false := by decide) : DE X (.Name x pos) (tC v) (wC d) :=
  ⟨pe_glob hg hm r hd, we_c h⟩

/-! ### two operands, one operand -/
/-- what an operation asks of two data, and what it gives -/
abbrev D2 := PD → PD → (Rz → Prop) → Prop
abbrev D1 := PD → (Rz → Prop) → Prop
abbrev Dn := List PD → (Rz → Prop) → Prop
def Gv (K : KT) (B : Addr → Prop) (G H : Hp) (σ : L2.St) (ρ : Sl) (Q : Rz → Prop) (QV : VK) : Prop :=
  ∀ v G' H' r, Stp B G H G' H' → Rep K B G' H' σ ρ → RR K B G' H' σ ρ v r → Q r → QV v H'
def Ok2 (K : KT) (r : R2) (D : D2) : Prop := ∀ (B : Addr → Prop) (G H : Hp) (σ : L2.St) (ρ : Sl) (x y : V) (dx dy : PD) (Q : Rz → Prop) (QV : VK),
  Rep K B G H σ ρ → Vw K G H x dx → Vw K G H y dy → D dx dy Q → Gv K B G H σ ρ Q QV → r x y H QV
def Ok1 (K : KT) (r : V → Hp → VK → Prop) (D : D1) : Prop := ∀ (B : Addr → Prop) (G H : Hp) (σ : L2.St) (ρ : Sl) (x : V) (dx : PD) (Q : Rz → Prop) (QV : VK),
  Rep K B G H σ ρ → Vw K G H x dx → D dx Q → Gv K B G H σ ρ Q QV → r x H QV
def wBin (D : D2) (wa wb : We) : We := fun ρ Q => wa ρ fun ra ρ1 => (ra.cold = true ∨ ∃ d, ra.pd ρ1 = some d) ∧ wb ρ1 fun rb ρ2 => look ra ρ2 fun x => look rb ρ2 fun y => D x y fun r => Q r ρ2
def wUn (D : D1) (wa : We) : We := fun ρ Q => wa ρ fun ra ρ1 => look ra ρ1 fun x => D x fun r => Q r ρ1
theorem we_bin {r : R2} {D : D2} {ta tb : TE} {wa wb : We} (h : Ok2 K r D) (ha : WE K ta wa) (hb : WE K tb wb) : WE K (tOp r ta tb) (wBin D wa wb) := fun B G H σ ρ Q QV R q k => by
  refine ha B G H σ ρ _ _ R q fun v G1 H1 ρ1 ra S1 R1 rr1 ⟨c1, q1⟩ => ?_
  obtain ⟨G1', S1', R1', rr1', cc, ec⟩ := rr1.cool R1 c1
  refine hb B G1' H1 σ ρ1 _ _ R1' q1 fun u G2 H2 ρ2 rb S2 R2 rr2 q2 => ?_
  obtain ⟨x, ex, q2⟩ := ok_some q2
  obtain ⟨y, ey, q2⟩ := ok_some q2
  refine h B G2 H2 σ ρ2 v u x y (fun r => Q r ρ2) QV R2 ((rr1'.stay cc S2.g).vw R2 ((ec ρ2).trans ex)) (rr2.vw R2 ey) q2 fun w G3 H3 res S3 R3 rr3 q3 => ?_
  exact k w G3 H3 ρ2 res (((S1.trans S1').trans S2).trans S3) R3 rr3 q3
theorem we_un {r : V → Hp → VK → Prop} {D : D1} {ta : TE} {wa : We} (h : Ok1 K r D) (ha : WE K ta wa) : WE K (tUn r ta) (wUn D wa) := fun B G H σ ρ Q QV R q k => by
  refine ha B G H σ ρ _ _ R q fun v G1 H1 ρ1 ra S1 R1 rr1 q1 => ?_
  obtain ⟨x, ex, q1⟩ := ok_some q1
  refine h B G1 H1 σ ρ1 v x (fun r => Q r ρ1) QV R1 (rr1.vw R1 ex) q1 fun w G3 H3 res S3 R3 rr3 q3 => ?_
  exact k w G3 H3 ρ1 res (S1.trans S3) R3 rr3 q3
theorem Gv.dat {B : Addr → Prop} {G H : Hp} {σ : L2.St} {ρ : Sl} {Q : Rz → Prop} {QV : VK} (k : Gv K B G H σ ρ Q QV) (R : Rep K B G H σ ρ) {v : V} {d : PD} (h : Rp K G v d) (q : Q (.dat d)) : QV v H :=
  k v G H _ .refl R (.dat h) q
theorem nb_ne {B : Addr → Prop} {p a : Addr} (nb : ¬ B p) (hb : B a) : a ≠ p := fun z => nb (z ▸ hb)
/-- a new thing -/
theorem Gv.new {B : Addr → Prop} {G H : Hp} {σ : L2.St} {ρ : Sl} {Q : Rz → Prop} {QV : VK} (k : Gv K B G H σ ρ Q QV) (R : Rep K B G H σ ρ) {p : Addr} (hp : H p = none) {ho : HO} {o : OD} (h : RO K G ho o) (q : Q (.own o)) : QV (.ref p) (upd H p ho) := by
  have gp : G p = none := R.gh.free R.tb hp
  have nb : ¬ B p := fun z => (R.bh p z).no hp
  have S1 : Stp B G H G (upd H p ho) := ⟨Ex.refl G, fun _ _ h => h, fun _ _ h => h, fun a o hb h _ => by rw [upd_ne (nb_ne nb hb)]; exact h, fun _ _ _ _ _ => rfl⟩
  have R1 : Rep K B G (upd H p ho) σ ρ := by
    refine ⟨R.gh.right gp, R.tb.new hp, R.z.step S1, fun a hb => ?_, R.len, R.dat, fun i u hi => ?_, R.sep⟩
    · exact (R.bh a hb).upd (nb_ne nb hb)
    · obtain ⟨q, hq, h1, h2, h3, h4, h5⟩ := R.own i u hi
      exact ⟨q, hq, h1, by rw [upd_ne (ne_of_none h2 hp)]; exact h2, h3, h4, h5⟩
  refine k (.ref p) G (upd H p ho) _ S1 R1 (.own upd_same gp nb h fun i u hi hz => ?_) q
  · obtain ⟨q, hq, h1, h2, _⟩ := R.own i u hi
    rw [h1] at hz
    cases hz
    rw [hp] at h2; cases h2
/-- a new tuple: a datum at once -/
theorem Gv.tup {B : Addr → Prop} {G H : Hp} {σ : L2.St} {ρ : Sl} {Q : Rz → Prop} {QV : VK} (k : Gv K B G H σ ρ Q QV) (R : Rep K B G H σ ρ) {p : Addr} (hp : H p = none) {xs : List V} {ds : List PD} (h : RpAll K G xs ds) (q : Q (.dat (.tup ds))) : QV (.ref p) (upd H p (.tup xs)) := by
  have gp : G p = none := R.gh.free R.tb hp
  have nb : ¬ B p := fun z => (R.bh p z).no hp
  have e : Ex G (upd G p (.tup xs)) := Ex.new gp
  have S1 : Stp B G H (upd G p (.tup xs)) (upd H p (.tup xs)) := ⟨e, fun a ps h => by rw [upd_ne (ne_of_none h gp)]; exact h, fun a ps h => mark_old nt_tup h, fun a o hb h _ => by rw [upd_ne (nb_ne nb hb)]; exact h, fun a _ hb _ _ => upd_ne (nb_ne nb hb)⟩
  have R1 : Rep K B (upd G p (.tup xs)) (upd H p (.tup xs)) σ ρ := by
    refine ⟨R.gh.both gp, (R.tb.new hp).mark nt_tup, R.z.step S1, fun a hb => ?_, R.len, fun i d hi => ?_, fun i u hi => ?_, R.sep⟩
    · exact (R.bh a hb).upd (nb_ne nb hb)
    · obtain ⟨v, h1, h2⟩ := R.dat i d hi
      exact ⟨v, h1, h2.mono e⟩
    · obtain ⟨q, hq, h1, h2, h3, h4, h5⟩ := R.own i u hi
      have z := ne_of_none h2 hp
      exact ⟨q, hq, h1, by rw [upd_ne z]; exact h2, by rw [upd_ne z]; exact h3, h4, h5.mono e⟩
  exact k (.ref p) _ _ _ S1 R1 (.dat (.tup (Or.inl (Or.inl upd_same)) (h.mono e))) q

/-! ### what a seen value is -/
section
variable {G H : Hp} {v : V}
theorem Vw.int {i : Int} (h : Vw K G H v (.int i)) : v = .int i := by
  rcases h with h | ⟨p, ho, o, rfl, h1, h2, h3⟩
  · cases h; rfl
  · cases h2 <;> cases h3
theorem Vw.bl {b : Bool} (h : Vw K G H v (.bl b)) : v = .bl b := by
  rcases h with h | ⟨p, ho, o, rfl, h1, h2, h3⟩
  · cases h; rfl
  · cases h2 <;> cases h3
theorem Vw.non (h : Vw K G H v .non) : v = .non := by
  rcases h with h | ⟨p, ho, o, rfl, h1, h2, h3⟩
  · cases h; rfl
  · cases h2 <;> cases h3
theorem Vw.str {x : Str} (h : Vw K G H v (.str x)) : v = .str x := by
  rcases h with h | ⟨p, ho, o, rfl, h1, h2, h3⟩
  · cases h; rfl
  · cases h2 <;> cases h3
theorem Vw.lst {ds : List PD} (e : Ex G H) (h : Vw K G H v (.lst ds)) : ∃ a xs, v = .ref a ∧ H a = some (.lst xs) ∧ RpAll K G xs ds := by
  rcases h with h | ⟨p, ho, o, rfl, h1, h2, h3⟩
  · cases h with
    | lst s r => exact ⟨_, _, rfl, e _ _ s nt_lst, r⟩
  · cases h2 with
    | lst r => cases h3; exact ⟨p, _, rfl, h1, r⟩
    | dK r => cases h3
theorem Vw.scr {ns : List Int} (e : Ex G H) (h : Vw K G H v (.scr ns)) : ∃ a, v = .ref a ∧ SqL K H a (ns.map V.int) := by
  rcases h with h | ⟨p, ho, o, rfl, h1, h2, h3⟩
  · cases h with
    | scr s => exact ⟨_, rfl, ex_l e s⟩
  · cases h2 <;> cases h3
theorem Vw.tup {ds : List PD} (e : Ex G H) (h : Vw K G H v (.tup ds)) : ∃ a xs, v = .ref a ∧ SqT K H a xs ∧ RpAll K G xs ds := by
  rcases h with h | ⟨p, ho, o, rfl, h1, h2, h3⟩
  · cases h with
    | tup s r => exact ⟨_, _, rfl, ex_t e s, r⟩
  · cases h2 <;> cases h3
end
end
end DL

set_option Elab.async false
set_option linter.all false
set_option maxRecDepth 100000
set_option maxHeartbeats 2000000
namespace DL
open PySem L2
section
variable {X : CxT} {K : KT}
/-! ### arithmetic -/
def rOr (r r' : R2) : R2 := fun x y H Q => r x y H Q ∨ r' x y H Q
theorem or_ok {f : Value → Value → Sem Value} {r r' : R2} (h : OpR X f r) (h' : OpR X f r') : OpR X f (rOr r r') := h.or h'
def dI (C : Int → Int → Prop) (g : Int → Int → PD) : D2 := fun x y k => match x, y with
  | .int i, .int j => C i j ∧ k (.dat (g i j))
  | _, _ => False
theorem ok2_I {C : Int → Int → Prop} {g : Int → Int → V} {gd : Int → Int → PD} (h : ∀ i j G, Rp K G (g i j) (gd i j)) : Ok2 K (rI C g) (dI C gd) := by
  intro B G H σ ρ x y dx dy Q QV R vx vy q k
  cases dx with
  | int i =>
    cases dy with
    | int j =>
      obtain ⟨c, q⟩ := q
      exact ⟨i, j, vx.int, vy.int, c, k.dat R (h i j G) q⟩
    | _ => exact q.elim
  | _ => exact q.elim
def dI0 (g : Int → Int → PD) : D2 := fun x y k => match x, y with
  | .int i, .int j => k (.dat (g i j))
  | _, _ => False
theorem ok2_I0 {g : Int → Int → V} {gd : Int → Int → PD} (h : ∀ i j G, Rp K G (g i j) (gd i j)) : Ok2 K (rI0 g) (dI0 gd) := by
  intro B G H σ ρ x y dx dy Q QV R vx vy q k
  cases dx with
  | int i =>
    cases dy with
    | int j => exact ⟨i, j, vx.int, vy.int, k.dat R (h i j G) q⟩
    | _ => exact q.elim
  | _ => exact q.elim
/-- + -/
def rAddS : R2 := fun x y H Q => ∃ i j, x = .str i ∧ y = .str j ∧ i.length + j.length ≤ sizeLine ∧ Q (.str (i ++ j)) H
def rAdd4 (K : PySem.W.Frag) : R2 := rOr (rI0 fun i j => .int (i + j)) (rOr rAddS (rOr rCat (rCatA K)))
theorem op_add4 : OpR X (binaryOp .Add) (rAdd4 X.K) := or_ok op_add (or_ok op_add_str (or_ok op_cat op_catA))
def dAdd : D2 := fun x y k => match x, y with
  | .int i, .int j => k (.dat (.int (i + j)))
  | .str a, .str b => a.length + b.length ≤ sizeLine ∧ k (.dat (.str (a ++ b)))
  | .lst a, .lst b => a.length + b.length ≤ sizeLine ∧ k (.own (.lst (a ++ b)))
  | .tup a, .tup b => a.length + b.length ≤ sizeLine ∧ k (.dat (.tup (a ++ b)))
  | _, _ => False
theorem Vw.tupR {G H : Hp} {v : V} {ds : List PD} (h : Vw K G H v (.tup ds)) : Rp K G v (.tup ds) := by
  rcases h with h | ⟨p, ho, o, rfl, h1, h2, h3⟩
  · exact h
  · cases h2 <;> cases h3
theorem ok2_add : Ok2 K (rAdd4 K) dAdd := by
  intro B G H σ ρ x y dx dy Q QV R vx vy q k
  cases dx with
  | int i =>
    cases dy with
    | int j => exact .inl ⟨i, j, vx.int, vy.int, k.dat R (.int _) q⟩
    | _ => exact q.elim
  | str a =>
    cases dy with
    | str b => exact .inr (.inl ⟨a, b, vx.str, vy.str, q.1, k.dat R (.str _) q.2⟩)
    | _ => exact q.elim
  | lst a =>
    cases dy with
    | lst b =>
      obtain ⟨p, xs, rfl, hp, rx⟩ := vx.lst R.gh
      obtain ⟨p', ys, rfl, hp', ry⟩ := vy.lst R.gh
      exact .inr (.inr (.inl ⟨p, p', xs, ys, rfl, rfl, hp, hp', by rw [rx.length, ry.length]; exact q.1, fun n hn => k.new R hn (.lst (rx.append ry)) q.2⟩))
    | _ => exact q.elim
  | tup a =>
    cases dy with
    | tup b =>
      have wx := vx.tupR
      have wy := vy.tupR
      obtain ⟨p, xs, rfl, hp, rx⟩ := vx.tup R.gh
      obtain ⟨p', ys, rfl, hp', ry⟩ := vy.tup R.gh
      refine .inr (.inr (.inr ⟨p, p', xs, ys, rfl, rfl, hp, hp', by rw [rx.length, ry.length]; exact q.1, fun e => ?_, fun _ e => ?_, fun _ _ n hn => k.tup R hn (rx.append ry) q.2⟩))
      · subst e
        cases rx
        exact k.dat R wy q.2
      · subst e
        cases ry
        exact k.dat R wx (by have := q.2; rw [List.append_nil] at this; exact this)
    | _ => exact q.elim
  | _ => exact q.elim
/-- ** -/
def CPowX (i j : Int) : Prop := 0 ≤ j ∧ (Builtin.Int.intBits i : Int) * j ≤ 2 ^ 27
theorem op_powX : OpR X (binaryOp .Pow) (rI CPowX fun i j => .int (i ^ j.toNat)) := opI fun _ _ _ _ _ _ _ hc q => PyProof.Rows.pow_int hc.1 hc.2 q

variable {a b : Expr} {ta tb : TE} {wa wb : We} {pos : Pos}
theorem de_add (ha : DE X a ta wa) (hb : DE X b tb wb) : DE X (.BinOp a .Add b pos) (tOp (rAdd4 X.K) ta tb) (wBin dAdd wa wb) := ⟨pe_op op_add4 ha.pe hb.pe, we_bin ok2_add ha.we hb.we⟩
theorem de_sub (ha : DE X a ta wa) (hb : DE X b tb wb) : DE X (.BinOp a .Sub b pos) (tOp (rI0 fun i j => .int (i - j)) ta tb) (wBin (dI0 fun i j => .int (i - j)) wa wb) := ⟨pe_op op_sub ha.pe hb.pe, we_bin (ok2_I0 fun _ _ _ => .int _) ha.we hb.we⟩
theorem de_mul (ha : DE X a ta wa) (hb : DE X b tb wb) : DE X (.BinOp a .Mult b pos) (tOp (rI CMulX fun i j => .int (i * j)) ta tb) (wBin (dI CMulX fun i j => .int (i * j)) wa wb) := ⟨pe_op op_mulX ha.pe hb.pe, we_bin (ok2_I fun _ _ _ => .int _) ha.we hb.we⟩
theorem de_fdiv (ha : DE X a ta wa) (hb : DE X b tb wb) : DE X (.BinOp a .FloorDiv b pos) (tOp (rI CDivW fun i j => .int (i / j)) ta tb) (wBin (dI CDivW fun i j => .int (i / j)) wa wb) := ⟨pe_op op_fdivW ha.pe hb.pe, we_bin (ok2_I fun _ _ _ => .int _) ha.we hb.we⟩
def CPos (_ j : Int) : Prop := 0 < j
theorem de_mod (ha : DE X a ta wa) (hb : DE X b tb wb) : DE X (.BinOp a .Mod b pos) (tOp (rI CPos fun i j => .int (i % j)) ta tb) (wBin (dI CPos fun i j => .int (i % j)) wa wb) := ⟨pe_op op_mod ha.pe hb.pe, we_bin (ok2_I fun _ _ _ => .int _) ha.we hb.we⟩
theorem de_pow (ha : DE X a ta wa) (hb : DE X b tb wb) : DE X (.BinOp a .Pow b pos) (tOp (rI CPowX fun i j => .int (i ^ j.toNat)) ta tb) (wBin (dI CPowX fun i j => .int (i ^ j.toNat)) wa wb) := ⟨pe_op op_powX ha.pe hb.pe, we_bin (ok2_I fun _ _ _ => .int _) ha.we hb.we⟩
def CNn (_ j : Int) : Prop := 0 ≤ j
theorem de_shr (ha : DE X a ta wa) (hb : DE X b tb wb) : DE X (.BinOp a .RShift b pos) (tOp (rI CNn fun i j => .int (i / 2 ^ j.toNat)) ta tb) (wBin (dI CNn fun i j => .int (i / 2 ^ j.toNat)) wa wb) := ⟨pe_op op_shr ha.pe hb.pe, we_bin (ok2_I fun _ _ _ => .int _) ha.we hb.we⟩
theorem de_shl (ha : DE X a ta wa) (hb : DE X b tb wb) : DE X (.BinOp a .LShift b pos) (tOp (rI CShl fun i j => .int (i * 2 ^ j.toNat)) ta tb) (wBin (dI CShl fun i j => .int (i * 2 ^ j.toNat)) wa wb) := ⟨pe_op op_shlW ha.pe hb.pe, we_bin (ok2_I fun _ _ _ => .int _) ha.we hb.we⟩
theorem de_band (ha : DE X a ta wa) (hb : DE X b tb wb) : DE X (.BinOp a .BitAnd b pos) (tOp (rI0 fun i j => .int (Builtin.bitAnd i j)) ta tb) (wBin (dI0 fun i j => .int (Builtin.bitAnd i j)) wa wb) := ⟨pe_op op_and ha.pe hb.pe, we_bin (ok2_I0 fun _ _ _ => .int _) ha.we hb.we⟩
theorem de_bor (ha : DE X a ta wa) (hb : DE X b tb wb) : DE X (.BinOp a .BitOr b pos) (tOp (rI0 fun i j => .int (Builtin.bitOr i j)) ta tb) (wBin (dI0 fun i j => .int (Builtin.bitOr i j)) wa wb) := ⟨pe_op op_or ha.pe hb.pe, we_bin (ok2_I0 fun _ _ _ => .int _) ha.we hb.we⟩
def dNeg : D1 := fun x k => match x with
  | .int i => k (.dat (.int (-i)))
  | _ => False
theorem ok1_neg : Ok1 K (rU fun i => .int (-i)) dNeg := by
  intro B G H σ ρ x dx Q QV R vx q k
  cases dx with
  | int i => exact ⟨i, vx.int, k.dat R (.int _) q⟩
  | _ => exact q.elim
theorem de_neg (ha : DE X a ta wa) : DE X (.UnaryOp .USub a pos) (tUn (rU fun i => .int (-i)) ta) (wUn dNeg wa) := ⟨pe_un un_neg ha.pe, we_un ok1_neg ha.we⟩
end
end DL

set_option Elab.async false
set_option linter.all false
set_option maxRecDepth 100000
set_option maxHeartbeats 2000000
namespace DL
open PySem L2
/-! ### plain data -/
mutual
def PD.py : PD → PyData
  | .non => .none
  | .bl b => .bool b
  | .int i => .int i
  | .str x => .str x
  | .lst xs => .list (pyAll xs)
  | .tup xs => .tuple (pyAll xs)
  | .scr ns => .list (ns.map .int)
  | .dct _ => .none
  | .ins _ _ => .none
  | .err _ _ => .none
  | .fn _ _ => .none
def pyAll : List PD → List PyData
  | [] => []
  | x :: xs => x.py :: pyAll xs
end
mutual
def PD.plain : PD → Bool
  | .non => true
  | .bl _ => true
  | .int _ => true
  | .str _ => true
  | .lst xs => plainAll xs
  | .tup xs => plainAll xs
  | .scr _ => true
  | .dct _ => false
  | .ins _ _ => false
  | .err _ _ => false
  | .fn _ _ => false
def plainAll : List PD → Bool
  | [] => true
  | x :: xs => x.plain && plainAll xs
end
section
variable {K : KT} {G H : Hp}
theorem dp_ints : ∀ (ns : List Int), DpAll K H (ns.map V.int) (ns.map PyData.int)
  | [] => .nil
  | n :: ns => .cons (.int n) (dp_ints ns)
mutual
theorem Rp.dp (e : Ex G H) : ∀ {v : V} {d : PD}, Rp K G v d → d.plain = true → Dp K H v d.py
  | _, .non, .non, _ => .non
  | _, .bl _, .bl b, _ => .bl b
  | _, .int _, .int i, _ => .int i
  | _, .str _, .str x, _ => .str x
  | _, .lst ds, .lst h r, p => .lst (SqL.of (e _ _ h nt_lst)) (RpAll.dp e r p)
  | _, .tup ds, .tup h r, p => .tup (ex_t e h) (RpAll.dp e r p)
  | _, .scr ns, .scr h, _ => .lst (ex_l e h) (dp_ints ns)
theorem RpAll.dp (e : Ex G H) : ∀ {vs : List V} {ds : List PD}, RpAll K G vs ds → plainAll ds = true → DpAll K H vs (pyAll ds)
  | _, [], .nil, _ => .nil
  | _, d :: ds, .cons h r, p => .cons (Rp.dp e h (Bool.and_eq_true_iff.mp p).1) (RpAll.dp e r (Bool.and_eq_true_iff.mp p).2)
end
theorem Vw.dp (e : Ex G H) {v : V} {d : PD} (h : Vw K G H v d) (p : d.plain = true) : Dp K H v d.py := by
  rcases h with h | ⟨q, ho, o, rfl, h1, h2, h3⟩
  · exact h.dp e p
  · cases h2 with
    | lst r => cases h3; exact .lst (SqL.of h1) (r.dp e p)
    | dK r => cases h3; cases p
end
section
variable {X : CxT} {K : KT}
/-- data that may be compared -/
def cmpOk (x : PD) : Prop := x.plain = true ∧ SeqAt.shaped x.py = true
def dEq : D2 := fun x y k => cmpOk x ∧ cmpOk y ∧ k (.dat (.bl (PyData.eqv x.py y.py)))
def dNe : D2 := fun x y k => cmpOk x ∧ cmpOk y ∧ k (.dat (.bl (!PyData.eqv x.py y.py)))
theorem ok2_eq : Ok2 K (rEqD K) dEq := by
  intro B G H σ ρ x y dx dy Q QV R vx vy q k
  obtain ⟨⟨p1, s1⟩, ⟨p2, s2⟩, q⟩ := q
  exact ⟨_, _, vx.dp R.gh p1, vy.dp R.gh p2, s1, s2, k.dat R (.bl _) q⟩
theorem ok2_ne : Ok2 K (rNeD K) dNe := by
  intro B G H σ ρ x y dx dy Q QV R vx vy q k
  obtain ⟨⟨p1, s1⟩, ⟨p2, s2⟩, q⟩ := q
  exact ⟨_, _, vx.dp R.gh p1, vy.dp R.gh p2, s1, s2, k.dat R (.bl _) q⟩
/-- is None -/
def PD.isN : PD → Bool
  | .non => true
  | _ => false
def dIsN : D2 := fun x y k => match y with
  | .non => k (.dat (.bl x.isN))
  | _ => False
def dNotN : D2 := fun x y k => match y with
  | .non => k (.dat (.bl (!x.isN)))
  | _ => False
def rIsN : R2 := fun x y H Q => y = .non ∧ Q (.bl (decide (x = .non))) H
def rNotN : R2 := fun x y H Q => y = .non ∧ Q (.bl (!decide (x = .non))) H
theorem vw_isN {G H : Hp} {v : V} {d : PD} (h : Vw K G H v d) : decide (v = .non) = d.isN := by
  rcases h with h | ⟨q, ho, o, rfl, h1, h2, h3⟩
  · cases h <;> rfl
  · cases h2 <;> cases h3 <;> rfl
theorem ok2_isN : Ok2 K rIsN dIsN := by
  intro B G H σ ρ x y dx dy Q QV R vx vy q k
  cases dy with
  | non =>
    refine ⟨vy.non, ?_⟩
    rw [vw_isN vx]
    exact k.dat R (.bl _) q
  | _ => exact q.elim
theorem ok2_notN : Ok2 K rNotN dNotN := by
  intro B G H σ ρ x y dx dy Q QV R vx vy q k
  cases dy with
  | non =>
    refine ⟨vy.non, ?_⟩
    rw [vw_isN vx]
    exact k.dat R (.bl _) q
  | _ => exact q.elim
/-- x in (a, b, ..), x in [a, b, ..], of ints, bools, texts, None -/
def PD.flat : PD → Bool
  | .non => true
  | .bl _ => true
  | .int _ => true
  | .str _ => true
  | _ => false
def dInAt (neg : Bool) (x : PD) (ys : List PD) (k : Rz → Prop) : Prop := x.flat = true ∧ ys.all PD.flat = true ∧ k (.dat (.bl (if neg then !(ys.any fun y => PyData.eqv y.py x.py) else ys.any fun y => PyData.eqv y.py x.py)))
def dIn (neg : Bool) : D2 := fun x y k => match y with
  | .lst ys => dInAt neg x ys k
  | .tup ys => dInAt neg x ys k
  | _ => False
theorem flat_of {G : Hp} {v : V} {d : PD} (h : Rp K G v d) (f : d.flat = true) : flatV v = true := by
  cases h <;> first | rfl | (cases f; done)
theorem flat_vw {G H : Hp} {v : V} {d : PD} (h : Vw K G H v d) (f : d.flat = true) : Rp K G v d := by
  rcases h with h | ⟨q, ho, o, rfl, h1, h2, h3⟩
  · exact h
  · cases h2 <;> cases h3 <;> cases f
theorem eqV_py {G : Hp} {v w : V} {d e : PD} (h : Rp K G v d) (h' : Rp K G w e) (f : d.flat = true) (f' : e.flat = true) : eqV v w = PyData.eqv d.py e.py := by
  cases h <;> first | (cases f; done) | skip
  all_goals cases h' <;> first | (cases f'; done) | skip
  all_goals first | rfl | (simp only [eqV, PyData.eqv, PD.py]; done) | (simp only [eqV, PyData.eqv, PD.py]; rfl)
theorem flats_of {G : Hp} : ∀ {vs : List V} {ds : List PD}, RpAll K G vs ds → ds.all PD.flat = true → vs.all flatV = true
  | _, _, .nil, _ => rfl
  | _, _, .cons h r, f => by
    rw [List.all_cons, Bool.and_eq_true] at f ⊢
    exact ⟨flat_of h f.1, flats_of r f.2⟩
theorem inV_py {G : Hp} {x : V} {dx : PD} (hx : Rp K G x dx) (fx : dx.flat = true) : ∀ {vs : List V} {ds : List PD}, RpAll K G vs ds → ds.all PD.flat = true → inV x vs = ds.any fun y => PyData.eqv y.py dx.py
  | _, _, .nil, _ => rfl
  | _, _, .cons h r, f => by
    rw [List.all_cons, Bool.and_eq_true] at f
    have ih := inV_py hx fx r f.2
    unfold inV at ih ⊢
    rw [List.any_cons, List.any_cons, ih, eqV_py h hx f.1 fx]
theorem ok2_in {neg : Bool} : Ok2 K (rIn K neg) (dIn neg) := by
  intro B G H σ ρ x y dx dy Q QV R vx vy q k
  cases dy with
  | lst ys =>
    obtain ⟨f, fs, q⟩ := q
    obtain ⟨a, xs, rfl, ha, rs⟩ := vy.lst R.gh
    have hx := flat_vw vx f
    refine ⟨a, xs, rfl, .inl (SqL.of ha), flat_of hx f, flats_of rs fs, ?_⟩
    rw [inV_py hx f rs fs]
    exact k.dat R (.bl _) q
  | tup ys =>
    obtain ⟨f, fs, q⟩ := q
    obtain ⟨a, xs, rfl, ha, rs⟩ := vy.tup R.gh
    have hx := flat_vw vx f
    refine ⟨a, xs, rfl, .inr ha, flat_of hx f, flats_of rs fs, ?_⟩
    rw [inV_py hx f rs fs]
    exact k.dat R (.bl _) q
  | _ => exact q.elim

/-! ### tests -/
variable {a b c : Expr} {ta tb tc : TE} {wa wb wc : We} {pos : Pos}
/-- a value that is a bool, as a test -/
def wB (w : We) : Wt := fun ρ Q => w ρ fun r ρ1 => match r with
  | .dat (.bl b) => Q b ρ1
  | _ => False
theorem wt_of {te : TE} {w : We} (h : WE K te w) : WTt K (tB te) (wB w) := fun B G H σ ρ Q QV R q k =>
  h B G H σ ρ _ _ R q fun v G1 H1 ρ1 r S1 R1 rr q1 => by
    cases rr with
    | dat z =>
      cases z with
      | bl b => exact ⟨b, rfl, k b G1 H1 ρ1 S1 R1 q1⟩
      | _ => exact q1.elim
    | own => exact q1.elim
    | bor => exact q1.elim
theorem wt_test {te : TE} {w : We} (h : WE K te w) : WTt K (tTest te) (wB w) := wt_of h
theorem dt_val {e : Expr} {t : TE} {w : We} (h : DE X e t w) (he : ∀ whole, isTrue e X.env whole = (do let v ← whole; standAt e.pos; holding [v] (truthy v)) := by intro _; rfl) : DT X e (tB t) (wB w) := ⟨pt_val h.pe he, wt_of h.we⟩
/-- a comparison, as a value and as a test -/
structure DC (X : CxT) (op : CmpOp) (r : R2) (D : D2) : Prop where
  op : OpR X (compareOp op) r
  ok : Ok2 X.K r D
theorem de_cmp {op : CmpOp} {r : R2} {D : D2} (h : DC X op r D) (ha : DE X a ta wa) (hb : DE X b tb wb) (hm : behindInMarks op b = false := by first | exact nomark _ | rfl) : DE X (.Compare a [op] [b] pos) (tOp r ta tb) (wBin D wa wb) := ⟨pe_cmpR h.op ha.pe hb.pe hm, we_bin h.ok ha.we hb.we⟩
theorem dt_cmp {op : CmpOp} {r : R2} {D : D2} (h : DC X op r D) (ha : DE X a ta wa) (hb : DE X b tb wb) (hm : behindInMarks op b = false := by first | exact nomark _ | rfl) : DT X (.Compare a [op] [b] pos) (tTest (tOp r ta tb)) (wB (wBin D wa wb)) := ⟨pt_cmpR h.op ha.pe hb.pe hm, wt_test (we_bin h.ok ha.we hb.we)⟩
theorem dc_lt : DC X .Lt (rI0 fun i j => .bl (decide (i < j))) (dI0 fun i j => .bl (decide (i < j))) := ⟨op_lt, ok2_I0 fun _ _ _ => .bl _⟩
theorem dc_le : DC X .LtE (rI0 fun i j => .bl (decide (i ≤ j))) (dI0 fun i j => .bl (decide (i ≤ j))) := ⟨op_le, ok2_I0 fun _ _ _ => .bl _⟩
theorem dc_gt : DC X .Gt (rI0 fun i j => .bl (decide (j < i))) (dI0 fun i j => .bl (decide (j < i))) := ⟨op_gt, ok2_I0 fun _ _ _ => .bl _⟩
theorem dc_ge : DC X .GtE (rI0 fun i j => .bl (decide (j ≤ i))) (dI0 fun i j => .bl (decide (j ≤ i))) := ⟨op_ge, ok2_I0 fun _ _ _ => .bl _⟩
theorem dc_eq (hu : X.cx.A.units + 64 < cLine) : DC X .Eq (rEqD X.K) dEq := ⟨op_eqD hu, ok2_eq⟩
theorem dc_ne (hu : X.cx.A.units + 64 < cLine) : DC X .NotEq (rNeD X.K) dNe := ⟨op_neD hu, ok2_ne⟩
theorem dc_isN : DC X .Is rIsN dIsN := ⟨op_isN, ok2_isN⟩
theorem dc_notN : DC X .IsNot rNotN dNotN := ⟨op_notN, ok2_notN⟩
theorem dc_in : DC X .In (rIn X.K false) (dIn false) := ⟨op_in_seq, ok2_in⟩
theorem dc_notIn : DC X .NotIn (rIn X.K true) (dIn true) := ⟨op_notIn_seq, ok2_in⟩

/-! ### and, or, not -/
structure DW (X : CxT) (e : Expr) (tt : TT) (w : Wt) : Prop where
  pw : PW X e tt
  wt : WTt X.K tt w
def wAnd (w u : Wt) : Wt := fun ρ Q => w ρ fun b ρ1 => match b with
  | true => u ρ1 Q
  | false => Q false ρ1
def wOr (w u : Wt) : Wt := fun ρ Q => w ρ fun b ρ1 => match b with
  | true => Q true ρ1
  | false => u ρ1 Q
def wNot (w : Wt) : Wt := fun ρ Q => w ρ fun b ρ1 => Q (!b) ρ1
variable {tt tu : TT} {w u : Wt}
theorem wt_and (h : WTt K tt w) (h' : WTt K tu u) : WTt K (tAnd tt tu) (wAnd w u) := fun B G H σ ρ Q QV R q k =>
  h B G H σ ρ _ _ R q fun b G1 H1 ρ1 S1 R1 q1 => by
    cases b with
    | true => rw [if_pos rfl]; exact h' B G1 H1 σ ρ1 Q QV R1 q1 fun b' G2 H2 ρ2 S2 R2 q2 => k b' G2 H2 ρ2 (S1.trans S2) R2 q2
    | false => rw [if_neg Bool.false_ne_true]; exact k false G1 H1 ρ1 S1 R1 q1
theorem wt_or (h : WTt K tt w) (h' : WTt K tu u) : WTt K (tOr tt tu) (wOr w u) := fun B G H σ ρ Q QV R q k =>
  h B G H σ ρ _ _ R q fun b G1 H1 ρ1 S1 R1 q1 => by
    cases b with
    | false => rw [if_neg Bool.false_ne_true]; exact h' B G1 H1 σ ρ1 Q QV R1 q1 fun b' G2 H2 ρ2 S2 R2 q2 => k b' G2 H2 ρ2 (S1.trans S2) R2 q2
    | true => rw [if_pos rfl]; exact k true G1 H1 ρ1 S1 R1 q1
theorem wt_not (h : WTt K tt w) : WTt K (tNot tt) (wNot w) := fun B G H σ ρ Q QV R q k =>
  h B G H σ ρ _ _ R q fun b G1 H1 ρ1 S1 R1 q1 => k (!b) G1 H1 ρ1 S1 R1 q1
variable {rest : List Expr}
theorem dw_and1 (h : DT X a tt w) : DW X (.BoolOp .And [a] pos) tt w := ⟨pw_and1 h.pt, h.wt⟩
theorem dw_or1 (h : DT X a tt w) : DW X (.BoolOp .Or [a] pos) tt w := ⟨pw_or1 h.pt, h.wt⟩
theorem dw_and (h : DT X a tt w) (h' : DW X (.BoolOp .And (b :: rest) pos) tu u) : DW X (.BoolOp .And (a :: b :: rest) pos) (tAnd tt tu) (wAnd w u) := ⟨pw_and h.pt h'.pw, wt_and h.wt h'.wt⟩
theorem dw_or (h : DT X a tt w) (h' : DW X (.BoolOp .Or (b :: rest) pos) tu u) : DW X (.BoolOp .Or (a :: b :: rest) pos) (tOr tt tu) (wOr w u) := ⟨pw_or h.pt h'.pw, wt_or h.wt h'.wt⟩
theorem DW.dt (h : DW X a tt w) : DT X a tt w := ⟨h.pw.pt, h.wt⟩
theorem dt_not (h : DT X a tt w) : DT X (.UnaryOp .Not a pos) (tNot tt) (wNot w) := ⟨pt_not h.pt, wt_not h.wt⟩
/-- .. as values, bools -/
def wAndV (w u : We) : We := fun ρ Q => wB w ρ fun b ρ1 => match b with
  | true => u ρ1 Q
  | false => Q (.dat (.bl false)) ρ1
def wOrV (w u : We) : We := fun ρ Q => wB w ρ fun b ρ1 => match b with
  | true => Q (.dat (.bl true)) ρ1
  | false => u ρ1 Q
def wNotV (w : We) : We := fun ρ Q => wB w ρ fun b ρ1 => Q (.dat (.bl (!b))) ρ1
theorem we_andV (h : WE K ta wa) (h' : WE K tb wb) : WE K (tAndV ta tb) (wAndV wa wb) := fun B G H σ ρ Q QV R q k =>
  wt_of h B G H σ ρ _ (fun c H1 => if c = true then tb σ H1 QV else QV (.bl false) H1) R q fun b G1 H1 ρ1 S1 R1 q1 => by
    cases b with
    | true => rw [if_pos rfl]; exact h' B G1 H1 σ ρ1 Q QV R1 q1 fun v' G2 H2 ρ2 r2 S2 R2 rr q2 => k v' G2 H2 ρ2 r2 (S1.trans S2) R2 rr q2
    | false => rw [if_neg Bool.false_ne_true]; exact k _ G1 H1 ρ1 _ S1 R1 (.dat (.bl false)) q1
theorem we_orV (h : WE K ta wa) (h' : WE K tb wb) : WE K (tOrV ta tb) (wOrV wa wb) := fun B G H σ ρ Q QV R q k =>
  wt_of h B G H σ ρ _ (fun c H1 => if c = true then QV (.bl true) H1 else tb σ H1 QV) R q fun b G1 H1 ρ1 S1 R1 q1 => by
    cases b with
    | false => rw [if_neg Bool.false_ne_true]; exact h' B G1 H1 σ ρ1 Q QV R1 q1 fun v' G2 H2 ρ2 r2 S2 R2 rr q2 => k v' G2 H2 ρ2 r2 (S1.trans S2) R2 rr q2
    | true => rw [if_pos rfl]; exact k _ G1 H1 ρ1 _ S1 R1 (.dat (.bl true)) q1
theorem we_notV (h : WE K ta wa) : WE K (tNotV ta) (wNotV wa) := fun B G H σ ρ Q QV R q k =>
  wt_of h B G H σ ρ _ (fun c H1 => QV (.bl (!c)) H1) R q fun b G1 H1 ρ1 S1 R1 q1 => k _ G1 H1 ρ1 _ S1 R1 (.dat (.bl (!b))) q1
theorem de_one {op} (h : DE X a ta wa) : DE X (.BoolOp op [a] pos) ta wa := ⟨pe_one h.pe, h.we⟩
theorem de_and (ha : DE X a ta wa) (hb : DE X (.BoolOp .And (b :: rest) pos) tb wb) : DE X (.BoolOp .And (a :: b :: rest) pos) (tAndV ta tb) (wAndV wa wb) := ⟨pe_and ha.pe hb.pe, we_andV ha.we hb.we⟩
theorem de_or (ha : DE X a ta wa) (hb : DE X (.BoolOp .Or (b :: rest) pos) tb wb) : DE X (.BoolOp .Or (a :: b :: rest) pos) (tOrV ta tb) (wOrV wa wb) := ⟨pe_or ha.pe hb.pe, we_orV ha.we hb.we⟩
theorem de_not (ha : DE X a ta wa) : DE X (.UnaryOp .Not a pos) (tNotV ta) (wNotV wa) := ⟨pe_not ha.pe, we_notV ha.we⟩
/-- a if t else b -/
def wIf (w : Wt) (wa wb : We) : We := fun ρ Q => w ρ fun b ρ1 => match b with
  | true => wa ρ1 Q
  | false => wb ρ1 Q
theorem we_if (h : WTt K tt w) (h1 : WE K ta wa) (h2 : WE K tb wb) : WE K (tIf tt ta tb) (wIf w wa wb) := fun B G H σ ρ Q QV R q k =>
  h B G H σ ρ _ _ R q fun b G1 H1 ρ1 S1 R1 q1 => by
    cases b with
    | true => rw [if_pos rfl]; exact h1 B G1 H1 σ ρ1 Q QV R1 q1 fun v' G2 H2 ρ2 r2 S2 R2 rr q2 => k v' G2 H2 ρ2 r2 (S1.trans S2) R2 rr q2
    | false => rw [if_neg Bool.false_ne_true]; exact h2 B G1 H1 σ ρ1 Q QV R1 q1 fun v' G2 H2 ρ2 r2 S2 R2 rr q2 => k v' G2 H2 ρ2 r2 (S1.trans S2) R2 rr q2
theorem de_if (hc : DT X c tt w) (ha : DE X a ta wa) (hb : DE X b tb wb) : DE X (.IfExp c a b pos) (tIf tt ta tb) (wIf w wa wb) := ⟨pe_ifExp hc.pt ha.pe hb.pe, we_if hc.wt ha.we hb.we⟩
end
end DL

set_option Elab.async false
set_option linter.all false
set_option maxRecDepth 100000
set_option maxHeartbeats 2000000
namespace DL
open PySem L2
section
variable {X : CxT} {K : KT} {e : Expr} {es : List Expr} {te : TE} {t ta : TA} {we : We} {wr wa : Wa} {pos p : Pos}
/-! ### arguments -/
def wNil : Wa := fun ρ Q => Q [] ρ
def warm (r : Rz) (ρ : Sl) : Prop := r.cold = true ∨ ∃ d, r.pd ρ = some d
def wCons (we : We) (wr : Wa) : Wa := fun ρ Q => we ρ fun r ρ1 => warm r ρ1 ∧ wr ρ1 fun rs ρ2 => Q (r.cool :: rs) ρ2
theorem wa_nil : WAa K tNil wNil := fun B G H σ ρ Q QV R q k => k [] G H ρ [] .refl R .nil q
theorem wa_cons (he : WE K te we) (hr : WAa K t wr) : WAa K (tCons te t) (wCons we wr) := fun B G H σ ρ Q QV R q k =>
  he B G H σ ρ _ _ R q fun v G1 H1 ρ1 r S1 R1 rr ⟨c1, q1⟩ => by
    obtain ⟨G1', S1', R1', rr1', cc, ec⟩ := rr.cool R1 c1
    refine hr B G1' H1 σ ρ1 _ _ R1' q1 fun vs G2 H2 ρ2 rs S2 R2 rrs q2 => ?_
    exact k (v :: vs) G2 H2 ρ2 (r.cool :: rs) ((S1.trans S1').trans S2) R2 (.cons (rr1'.stay cc S2.g) cc rrs) q2
theorem da_nil : DA X [] tNil wNil := ⟨pa_nil, wa_nil⟩
theorem da_cons (he : DE X e te we) (hr : DA X es t wr) (hs : starEach (e :: es) X.env = (false, eval e X.env) :: starEach es X.env := by rfl) : DA X (e :: es) (tCons te t) (wCons we wr) := ⟨pa_cons he.pe hr.pa hs, wa_cons he.we hr.wa⟩
def pdsOf : List Rz → Sl → Option (List PD)
  | [], _ => some []
  | r :: rs, ρ => match r.pd ρ, pdsOf rs ρ with
    | some d, some ds => some (d :: ds)
    | _, _ => none
def looks (rs : List Rz) (ρ : Sl) (k : List PD → Prop) : Prop := ok (pdsOf rs ρ) k
inductive VwAll (K : KT) (G H : Hp) : List V → List PD → Prop
  | nil : VwAll K G H [] []
  | cons {v : V} {vs : List V} {d : PD} {ds : List PD} : Vw K G H v d → VwAll K G H vs ds → VwAll K G H (v :: vs) (d :: ds)
theorem RRs.vw {B : Addr → Prop} {G H : Hp} {σ : L2.St} {ρ : Sl} (R : Rep K B G H σ ρ) : ∀ {vs : List V} {rs : List Rz} {ds : List PD}, RRs K B G H σ ρ vs rs → pdsOf rs ρ = some ds → VwAll K G H vs ds
  | _, _, ds, .nil, h => by cases h; exact .nil
  | _, _, ds, @RRs.cons _ _ _ _ _ _ v vs r rs h1 hc hr, h => by
    unfold pdsOf at h
    cases e1 : r.pd ρ with
    | none => rw [e1] at h; cases h
    | some d =>
      cases e2 : pdsOf rs ρ with
      | none => rw [e1, e2] at h; cases h
      | some ds' =>
        rw [e1, e2] at h
        cases h
        exact .cons (h1.vw R e1) (RRs.vw R hr e2)
/-! ### things captured: items of a display, what is appended -/
/-- the items are made stable -/
def frzAll : List Rz → Sl → Option (List PD × Sl)
  | [], ρ => some ([], ρ)
  | r :: rs, ρ => match r with
    | .dat d => match frzAll rs ρ with
      | some (ds, ρ') => some (d :: ds, ρ')
      | none => none
    | .own _ => none
    | .bor i => match ρ[i]? with
      | some (.dat d) => match frzAll rs ρ with
        | some (ds, ρ') => some (d :: ds, ρ')
        | none => none
      | some (.own o) => match o.pd with
        | some d => match frzAll rs (ρ.set i (.dat d)) with
          | some (ds, ρ') => some (d :: ds, ρ')
          | none => none
        | none => none
      | _ => none
theorem frz_all {B : Addr → Prop} {H : Hp} {σ : L2.St} : ∀ {vs : List V} {rs : List Rz} {G : Hp} {ρ ρ' : Sl} {ds : List PD}, Rep K B G H σ ρ → RRs K B G H σ ρ vs rs → frzAll rs ρ = some (ds, ρ') →
    ∃ G', Stp B G H G' H ∧ Rep K B G' H σ ρ' ∧ RpAll K G' vs ds := by
  intro vs rs
  induction rs generalizing vs with
  | nil =>
    intro G ρ ρ' ds R h e
    cases h
    cases e
    exact ⟨G, .refl, R, .nil⟩
  | cons r rs ih =>
    intro G ρ ρ' ds R h e
    cases h with
    | cons h1 hc hr =>
      unfold frzAll at e
      cases r with
      | own o => cases hc
      | dat d =>
        cases e2 : frzAll rs ρ with
        | none => simp only [e2] at e; cases e
        | some p =>
          obtain ⟨ds', ρ''⟩ := p
          simp only [e2] at e
          cases e
          obtain ⟨G', S, R', q⟩ := ih R hr e2
          cases h1 with
          | dat z => exact ⟨G', S, R', .cons (z.mono S.g) q⟩
      | bor i =>
        cases h1 with
        | bor hz =>
          cases ei : ρ[i]? with
          | none => simp only [ei] at e; cases e
          | some s =>
            cases s with
            | emp => simp only [ei] at e; cases e
            | dat d =>
              cases e2 : frzAll rs ρ with
              | none => simp only [ei, e2] at e; cases e
              | some p =>
                obtain ⟨ds', ρ''⟩ := p
                simp only [ei, e2] at e
                cases e
                obtain ⟨G', S, R', q⟩ := ih R hr e2
                obtain ⟨w, w1, w2⟩ := R.dat _ _ ei
                rw [hz] at w1; cases w1
                exact ⟨G', S, R', .cons (w2.mono S.g) q⟩
            | own o =>
              cases eo : o.pd with
              | none => simp only [ei, eo] at e; cases e
              | some d =>
                cases e2 : frzAll rs (ρ.set i (.dat d)) with
                | none => simp only [ei, eo, e2] at e; cases e
                | some p =>
                  obtain ⟨ds', ρ''⟩ := p
                  simp only [ei, eo, e2] at e
                  cases e
                  obtain ⟨w, G1, w1, R1, w2, S1⟩ := R.freeze ei eo
                  obtain ⟨G', S, R', q⟩ := ih R1 (hr.stay S1.g) e2
                  rw [hz] at w1; cases w1
                  exact ⟨G', S1.trans S, R', .cons (w2.mono S.g) q⟩
def frz (rs : List Rz) (ρ : Sl) (k : List PD → Sl → Prop) : Prop := ok (frzAll rs ρ) fun p => k p.1 p.2
/-- (a, b, ..), [a, b, ..] -/
def wTup (wa : Wa) : We := fun ρ Q => wa ρ fun rs ρ1 => frz rs ρ1 fun ds ρ2 => ds.length ≤ sizeLine ∧ Q (.dat (.tup ds)) ρ2
def wLst (wa : Wa) : We := fun ρ Q => wa ρ fun rs ρ1 => frz rs ρ1 fun ds ρ2 => ds.length ≤ sizeLine ∧ Q (.own (.lst ds)) ρ2
theorem we_tup (h : WAa K t wa) : WE K (tTup t) (wTup wa) := fun B G H σ ρ Q QV R q k =>
  h B G H σ ρ _ _ R q fun vs G1 H1 ρ1 rs S1 R1 rr q1 => by
    obtain ⟨⟨ds, ρ2⟩, e, hz, q1⟩ := ok_some q1
    obtain ⟨G2, S2, R2, ra⟩ := frz_all R1 rr e
    refine ⟨by rw [ra.length]; exact hz, fun n hn => ?_⟩
    exact Gv.tup (K := K) (Q := fun r => Q r ρ2) (fun v G' H' r S3 R3 rr3 q3 => k v G' H' ρ2 r ((S1.trans S2).trans S3) R3 rr3 q3) R2 hn ra q1
theorem we_lst (h : WAa K t wa) : WE K (tLst t) (wLst wa) := fun B G H σ ρ Q QV R q k =>
  h B G H σ ρ _ _ R q fun vs G1 H1 ρ1 rs S1 R1 rr q1 => by
    obtain ⟨⟨ds, ρ2⟩, e, hz, q1⟩ := ok_some q1
    obtain ⟨G2, S2, R2, ra⟩ := frz_all R1 rr e
    refine ⟨by rw [ra.length]; exact hz, fun n hn => ?_⟩
    exact Gv.new (K := K) (Q := fun r => Q r ρ2) (fun v G' H' r S3 R3 rr3 q3 => k v G' H' ρ2 r ((S1.trans S2).trans S3) R3 rr3 q3) R2 hn (.lst ra) q1
theorem de_tup {x1} (h : DA X es t wa) : DE X (.Tuple es x1 pos) (tTup t) (wTup wa) := ⟨pe_tup h.pa, we_tup h.wa⟩
theorem de_lst (h : DA X es t wa) : DE X (.List es pos) (tLst t) (wLst wa) := ⟨pe_lst h.pa, we_lst h.wa⟩

/-! ### built-in calls -/
def OkN (K : KT) (r : List V → Hp → VK → Prop) (D : Dn) : Prop := ∀ (B : Addr → Prop) (G H : Hp) (σ : L2.St) (ρ : Sl) (xs : List V) (ds : List PD) (Q : Rz → Prop) (QV : VK),
  Rep K B G H σ ρ → VwAll K G H xs ds → D ds Q → Gv K B G H σ ρ Q QV → r xs H QV
def wCB (D : Dn) (wa : Wa) : We := fun ρ Q => wa ρ fun rs ρ1 => looks rs ρ1 fun ds => D ds fun r => Q r ρ1
theorem we_cb {r : List V → Hp → VK → Prop} {D : Dn} (h : OkN K r D) (ha : WAa K t wa) : WE K (tCB r t) (wCB D wa) := fun B G H σ ρ Q QV R q k =>
  ha B G H σ ρ _ _ R q fun vs G1 H1 ρ1 rs S1 R1 rr q1 => by
    obtain ⟨ds, e, q1⟩ := ok_some q1
    exact h B G1 H1 σ ρ1 vs ds (fun r => Q r ρ1) QV R1 (rr.vw R1 e) q1 fun v G' H' r S3 R3 rr3 q3 => k v G' H' ρ1 r (S1.trans S3) R3 rr3 q3
structure DB (X : CxT) (f : Value) (r : List V → Hp → VK → Prop) (D : Dn) : Prop where
  c : CallR X f r
  ok : OkN X.K r D
theorem CallR.orr {f : Value} {r r' : List V → Hp → VK → Prop} (h : CallR X f r) (h' : CallR X f r') : CallR X f (fun xs H Q => r xs H Q ∨ r' xs H Q) := h.or h'
def dInt : Dn := fun ds k => match ds with
  | [.int i] => k (.dat (.int i))
  | [.bl b] => k (.dat (.int (if b then 1 else 0)))
  | _ => False
theorem db_int : DB X (.type "int") (fun xs H Q => (∃ i, xs = [.int i] ∧ Q (.int i) H) ∨ ∃ k, xs = [.bl k] ∧ Q (.int (if k then 1 else 0)) H) dInt := by
  refine ⟨call_int1, fun B G H σ ρ xs ds Q QV R hv q k => ?_⟩
  match ds, hv, q with
  | [.int i], .cons h .nil, q => exact .inl ⟨i, by rw [h.int], k.dat R (.int _) q⟩
  | [.bl b], .cons h .nil, q => exact .inr ⟨b, by rw [h.bl], k.dat R (.int _) q⟩
def dAbs : Dn := fun ds k => match ds with
  | [.int i] => k (.dat (.int (if i < 0 then -i else i)))
  | _ => False
theorem db_abs : DB X (.builtin "abs") (fun xs H Q => ∃ i, xs = [.int i] ∧ Q (.int (if i < 0 then -i else i)) H) dAbs := by
  refine ⟨call_abs, fun B G H σ ρ xs ds Q QV R hv q k => ?_⟩
  match ds, hv, q with
  | [.int i], .cons h .nil, q => exact ⟨i, by rw [h.int], k.dat R (.int _) q⟩
def rLen3 (K : PySem.W.Frag) : List V → Hp → VK → Prop := fun xs H Q => (∃ p ys, xs = [.ref p] ∧ (SqL K H p ys ∨ SqT K H p ys) ∧ Q (.int ys.length) H) ∨ ∃ z, xs = [.str z] ∧ z.length ≤ sizeLine ∧ Q (.int z.length) H
def dLen : Dn := fun ds k => match ds with
  | [.lst xs] => k (.dat (.int xs.length))
  | [.tup xs] => k (.dat (.int xs.length))
  | [.scr xs] => k (.dat (.int xs.length))
  | [.str z] => z.length ≤ sizeLine ∧ k (.dat (.int z.length))
  | _ => False
theorem db_len : DB X (.builtin "len") (rLen3 X.K) dLen := by
  refine ⟨CallR.orr call_len_seq call_len_str, fun B G H σ ρ xs ds Q QV R hv q k => ?_⟩
  match ds, hv, q with
  | [.lst ys], .cons h .nil, q =>
    obtain ⟨a, us, rfl, ha, ra⟩ := h.lst R.gh
    exact .inl ⟨a, us, rfl, .inl (SqL.of ha), by rw [ra.length]; exact k.dat R (.int _) q⟩
  | [.tup ys], .cons h .nil, q =>
    obtain ⟨a, us, rfl, ha, ra⟩ := h.tup R.gh
    exact .inl ⟨a, us, rfl, .inr ha, by rw [ra.length]; exact k.dat R (.int _) q⟩
  | [.scr ys], .cons h .nil, q =>
    obtain ⟨a, rfl, ha⟩ := h.scr R.gh
    exact .inl ⟨a, _, rfl, .inl ha, by rw [List.length_map]; exact k.dat R (.int _) q⟩
  | [.str z], .cons h .nil, q => exact .inr ⟨z, by rw [h.str], q.1, k.dat R (.int _) q.2⟩
def dMax2 : Dn := fun ds k => match ds with
  | [.int i, .int j] => k (.dat (.int (if j > i then j else i)))
  | _ => False
theorem db_max2 (hc : X.calm = true) : DB X (.builtin "max") (fun xs H Q => ∃ i j, xs = [.int i, .int j] ∧ Q (.int (if j > i then j else i)) H) dMax2 := by
  refine ⟨call_max2 hc, fun B G H σ ρ xs ds Q QV R hv q k => ?_⟩
  match ds, hv, q with
  | [.int i, .int j], .cons h (.cons h' .nil), q => exact ⟨i, j, by rw [h.int, h'.int], k.dat R (.int _) q⟩
def dMin2 : Dn := fun ds k => match ds with
  | [.int i, .int j] => k (.dat (.int (if j < i then j else i)))
  | _ => False
theorem db_min2 (hc : X.calm = true) : DB X (.builtin "min") (fun xs H Q => ∃ i j, xs = [.int i, .int j] ∧ Q (.int (if j < i then j else i)) H) dMin2 := by
  refine ⟨call_min2 hc, fun B G H σ ρ xs ds Q QV R hv q k => ?_⟩
  match ds, hv, q with
  | [.int i, .int j], .cons h (.cons h' .nil), q => exact ⟨i, j, by rw [h.int, h'.int], k.dat R (.int _) q⟩
/-- ints of a list of data -/
def intsOf : List PD → Option (List Int)
  | [] => some []
  | .int i :: ds => match intsOf ds with
    | some ns => some (i :: ns)
    | none => none
  | _ :: _ => none
theorem intsOf_eq : ∀ {ds : List PD} {ns : List Int}, intsOf ds = some ns → ds = ns.map PD.int := by
  intro ds
  induction ds with
  | nil => intro ns h; cases h; rfl
  | cons d ds ih =>
    intro ns h
    cases d with
    | int i =>
      unfold intsOf at h
      cases e : intsOf ds with
      | none => simp only [e] at h; cases h
      | some ms => simp only [e] at h; cases h; rw [ih e]; rfl
    | _ => cases h
theorem intsOf_map : ∀ (ns : List Int), intsOf (ns.map PD.int) = some ns
  | [] => rfl
  | n :: ns => by
    show (match intsOf (ns.map PD.int) with | some ms => some (n :: ms) | none => none) = _
    rw [intsOf_map ns]
def dSum : Dn := fun ds k => match ds with
  | [.lst xs] => ok (intsOf xs) fun ns => k (.dat (.int ns.sum))
  | [.scr ns] => k (.dat (.int ns.sum))
  | _ => False
theorem db_sum (hc : X.calm = true) : DB X (.builtin "sum") (rSum X.K) dSum := by
  refine ⟨cr_sum hc, fun B G H σ ρ xs ds Q QV R hv q k => ?_⟩
  match ds, hv, q with
  | [.lst ys], .cons h .nil, q =>
    obtain ⟨ns, e, q⟩ := ok_some q
    obtain ⟨a, us, rfl, ha, ra⟩ := h.lst R.gh
    rw [intsOf_eq e] at ra
    rw [ra.ints] at ha
    exact ⟨a, ns, rfl, SqL.of ha, k.dat R (.int _) q⟩
  | [.scr ns], .cons h .nil, q =>
    obtain ⟨a, rfl, ha⟩ := h.scr R.gh
    exact ⟨a, ns, rfl, ha, k.dat R (.int _) q⟩
def bools : List PD → Option (List Bool)
  | [] => some []
  | .bl b :: ds => match bools ds with
    | some ns => some (b :: ns)
    | none => none
  | _ :: _ => none
theorem bools_eq : ∀ {ds : List PD} {ns : List Bool}, bools ds = some ns → ds = ns.map PD.bl := by
  intro ds
  induction ds with
  | nil => intro ns h; cases h; rfl
  | cons d ds ih =>
    intro ns h
    cases d with
    | bl i =>
      unfold bools at h
      cases e : bools ds with
      | none => simp only [e] at h; cases h
      | some ms => simp only [e] at h; cases h; rw [ih e]; rfl
    | _ => cases h
theorem bools_map : ∀ (ns : List Bool), bools (ns.map PD.bl) = some ns
  | [] => rfl
  | n :: ns => by
    show (match bools (ns.map PD.bl) with | some ms => some (n :: ms) | none => none) = _
    rw [bools_map ns]
theorem RpAll.bls {G : Hp} : ∀ {vs : List V} {ns : List Bool}, RpAll K G vs (ns.map PD.bl) → vs = ns.map V.bl := by
  intro vs ns
  induction ns generalizing vs with
  | nil => intro h; cases h; rfl
  | cons n ns ih => intro h; cases h with | cons h r => cases h; rw [ih r]; rfl
def dAll : Dn := fun ds k => match ds with
  | [.lst xs] => ok (bools xs) fun bs => k (.dat (.bl (bs.all id)))
  | _ => False
def dAny : Dn := fun ds k => match ds with
  | [.lst xs] => ok (bools xs) fun bs => k (.dat (.bl (bs.any id)))
  | _ => False
theorem db_all (hc : X.calm = true) : DB X (.builtin "all") (rAll X.K) dAll := by
  refine ⟨cr_all hc, fun B G H σ ρ xs ds Q QV R hv q k => ?_⟩
  match ds, hv, q with
  | [.lst ys], .cons h .nil, q =>
    obtain ⟨ns, e, q⟩ := ok_some q
    obtain ⟨a, us, rfl, ha, ra⟩ := h.lst R.gh
    rw [bools_eq e] at ra
    rw [ra.bls] at ha
    exact ⟨a, ns, rfl, SqL.of ha, k.dat R (.bl _) q⟩
theorem db_any (hc : X.calm = true) : DB X (.builtin "any") (rAny X.K) dAny := by
  refine ⟨cr_any hc, fun B G H σ ρ xs ds Q QV R hv q k => ?_⟩
  match ds, hv, q with
  | [.lst ys], .cons h .nil, q =>
    obtain ⟨ns, e, q⟩ := ok_some q
    obtain ⟨a, us, rfl, ha, ra⟩ := h.lst R.gh
    rw [bools_eq e] at ra
    rw [ra.bls] at ha
    exact ⟨a, ns, rfl, SqL.of ha, k.dat R (.bl _) q⟩
/-- list(xs), tuple(xs) -/
def dList : Dn := fun ds k => match ds with
  | [.lst xs] => k (.own (.lst xs))
  | [.tup xs] => k (.own (.lst xs))
  | [.scr ns] => k (.own (.lst (ns.map .int)))
  | _ => False
theorem db_list : DB X (.type "list") (fun xs H Q => ∃ p ys, xs = [.ref p] ∧ (SqL X.K H p ys ∨ SqT X.K H p ys) ∧ ∀ l, H l = none → Q (.ref l) (upd H l (.lst ys))) dList := by
  refine ⟨call_list_of, fun B G H σ ρ xs ds Q QV R hv q k => ?_⟩
  match ds, hv, q with
  | [.lst ys], .cons h .nil, q =>
    obtain ⟨a, us, rfl, ha, ra⟩ := h.lst R.gh
    exact ⟨a, us, rfl, .inl (SqL.of ha), fun n hn => k.new R hn (.lst ra) q⟩
  | [.tup ys], .cons h .nil, q =>
    obtain ⟨a, us, rfl, ha, ra⟩ := h.tup R.gh
    exact ⟨a, us, rfl, .inr ha, fun n hn => k.new R hn (.lst ra) q⟩
  | [.scr ns], .cons h .nil, q =>
    obtain ⟨a, rfl, ha⟩ := h.scr R.gh
    exact ⟨a, _, rfl, .inl ha, fun n hn => k.new R hn (.lst (rp_ints ns)) q⟩
def dTuple : Dn := fun ds k => match ds with
  | [.lst xs] => k (.dat (.tup xs))
  | [.tup xs] => k (.dat (.tup xs))
  | _ => False
theorem db_tuple : DB X (.type "tuple") (fun xs H Q => ∃ p ys, xs = [.ref p] ∧ ((SqL X.K H p ys ∧ ∀ l, H l = none → Q (.ref l) (upd H l (.tup ys))) ∨ (SqT X.K H p ys ∧ Q (.ref p) H))) dTuple := by
  refine ⟨call_tuple_of, fun B G H σ ρ xs ds Q QV R hv q k => ?_⟩
  match ds, hv, q with
  | [.lst ys], .cons h .nil, q =>
    obtain ⟨a, us, rfl, ha, ra⟩ := h.lst R.gh
    exact ⟨a, us, rfl, .inl ⟨SqL.of ha, fun n hn => k.tup R hn ra q⟩⟩
  | [.tup ys], .cons h .nil, q =>
    have w := h.tupR
    obtain ⟨a, us, rfl, ha, ra⟩ := h.tup R.gh
    exact ⟨a, us, rfl, .inr ⟨ha, k.dat R w q⟩⟩
/-- repr of plain data -/
def rRepr (K : PySem.W.Frag) : List V → Hp → VK → Prop := fun xs H Q => ∃ x d, xs = [x] ∧ Dp K H x d ∧ d.showable = true ∧ d.hasDict = false ∧ d.depth ≤ 64 ∧ d.shown.length ≤ sizeLine ∧ Q (.str d.shown) H
theorem call_repr (hg : X.A.guards = some []) (hu : X.cx.A.units + 66 < cLine) : CallR X (.builtin "repr") (rRepr X.K) := by
  intro pins s σ H xs us Q I r h
  obtain ⟨x, d, rfl, hd, hs, hdc, hdp, hz, q⟩ := h
  obtain ⟨u, rfl, ru⟩ := vals1 r
  cases hd with
  | non => cases ru; exact PySem.P.repr_of_none ⟨.str _, H, I.tok _, ⟨_, rfl⟩, q⟩
  | bl b => cases ru; exact PySem.P.repr_of_bool ⟨.str _, H, I.tok _, ⟨_, rfl⟩, q⟩
  | int i => obtain ⟨t, rfl⟩ := ru; exact PySem.P.repr_of_int (of_decide_eq_true hs) ⟨.str _, H, I.tok _, ⟨_, rfl⟩, q⟩
  | str z => obtain ⟨t, rfl⟩ := ru; exact PySem.P.repr_of_str ⟨.str _, H, I.tok _, ⟨_, rfl⟩, q⟩ hz
  | lst a b =>
    obtain ⟨as, rd⟩ := Dp.reads I _ _ _ (.lst a b) ru
    cases ru
    exact repr_of_reads' rd hs (fun z => by rw [hdc] at z; cases z) hg (by omega) (fun _ _ z => z) (fun h' tu tk kk => ⟨.str _, H, I.kept kk, ⟨_, rfl⟩, q⟩) hz
  | tup a b =>
    obtain ⟨as, rd⟩ := Dp.reads I _ _ _ (.tup a b) ru
    cases ru
    exact repr_of_reads' rd hs (fun z => by rw [hdc] at z; cases z) hg (by omega) (fun _ _ z => z) (fun h' tu tk kk => ⟨.str _, H, I.kept kk, ⟨_, rfl⟩, q⟩) hz
/-- what repr asks: it is plain, its ints and its text are not too long -/
def showOk (d : PD) : Prop := d.plain = true ∧ d.py.showable = true ∧ d.py.hasDict = false ∧ d.py.depth ≤ 64 ∧ d.py.shown.length ≤ sizeLine
def dRepr : Dn := fun ds k => match ds with
  | [d] => showOk d ∧ k (.dat (.str d.py.shown))
  | _ => False
theorem db_repr (hg : X.A.guards = some []) (hu : X.cx.A.units + 66 < cLine) : DB X (.builtin "repr") (rRepr X.K) dRepr := by
  refine ⟨call_repr hg hu, fun B G H σ ρ xs ds Q QV R hv q k => ?_⟩
  match ds, hv, q with
  | [d], .cons h .nil, ⟨⟨p, s1, s2, s3, s4⟩, q⟩ => exact ⟨_, _, rfl, h.dp R.gh p, s1, s2, s3, s4, k.dat R (.str _) q⟩
/-- str(int) -/
def dStr : Dn := fun ds k => match ds with
  | [.int i] => i.natAbs.log2 < 1920 ∧ k (.dat (.str (toString i)))
  | _ => False
theorem db_str : DB X (.type "str") (fun xs H Q => ∃ i, xs = [.int i] ∧ i.natAbs.log2 < 1920 ∧ Q (.str (toString i)) H) dStr := by
  refine ⟨call_str_int, fun B G H σ ρ xs ds Q QV R hv q k => ?_⟩
  match ds, hv, q with
  | [.int i], .cons h .nil, q => exact ⟨i, by rw [h.int], q.1, k.dat R (.str _) q.2⟩
end
end DL

set_option Elab.async false
set_option linter.all false
set_option maxRecDepth 100000
set_option maxHeartbeats 2000000
namespace DL
open PySem L2
section
variable {X : CxT} {K : KT} {a b e : Expr} {es : List Expr} {te ta tb : TE} {t : TA} {we wa wb : We} {wr : Wa} {pos p : Pos}
/-! ### subscripts -/
def dIx : D2 := fun x y k => match x, y with
  | .lst xs, .int i => ok (atI xs i) fun d => k (.dat d)
  | .tup xs, .int i => ok (atI xs i) fun d => k (.dat d)
  | .scr ns, .int i => ok (atI ns i) fun n => k (.dat (.int n))
  | .str z, .int i => z.length ≤ sizeLine ∧ ok (atI z.cps.toList i) fun c => k (.dat (.str ⟨#[c]⟩))
  | _, _ => False
theorem rp_at {G : Hp} {vs : List V} {ds : List PD} {i : Int} {d : PD} (r : RpAll K G vs ds) (h : atI ds i = some d) : ∃ v, atI vs i = some v ∧ Rp K G v d := by
  unfold atI at h ⊢
  rw [r.length]
  cases e : ixN ds.length i with
  | none => rw [e] at h; cases h
  | some j =>
    rw [e] at h
    exact r.get h
theorem ints_at {ns : List Int} {i n : Int} (h : atI ns i = some n) : atI (ns.map V.int) i = some (.int n) := by
  unfold atI at h ⊢
  rw [List.length_map]
  cases e : ixN ns.length i with
  | none => rw [e] at h; cases h
  | some j =>
    rw [e] at h
    have h : ns[j]? = some n := h
    show (ns.map V.int)[j]? = _
    rw [List.getElem?_map, h]
    rfl
theorem ok2_ix : Ok2 K (rIx K) dIx := by
  intro B G H σ ρ x y dx dy Q QV R vx vy q k
  cases dy with
  | int i =>
    cases dx with
    | lst ds =>
      obtain ⟨d, e, q⟩ := ok_some q
      obtain ⟨a, us, rfl, ha, ra⟩ := vx.lst R.gh
      obtain ⟨v, e1, r1⟩ := rp_at ra e
      exact .inl ⟨a, us, i, v, rfl, vy.int, SqL.of ha, e1, k.dat R r1 q⟩
    | tup ds =>
      obtain ⟨d, e, q⟩ := ok_some q
      obtain ⟨a, us, rfl, ha, ra⟩ := vx.tup R.gh
      obtain ⟨v, e1, r1⟩ := rp_at ra e
      exact .inr (.inl ⟨a, us, i, v, rfl, vy.int, ha, e1, k.dat R r1 q⟩)
    | scr ns =>
      obtain ⟨n, e, q⟩ := ok_some q
      obtain ⟨a, rfl, ha⟩ := vx.scr R.gh
      exact .inl ⟨a, _, i, .int n, rfl, vy.int, ha, ints_at e, k.dat R (.int n) q⟩
    | str z =>
      obtain ⟨hz, q⟩ := q
      obtain ⟨c, e, q⟩ := ok_some q
      exact .inr (.inr ⟨z, i, c, vx.str, vy.int, hz, e, k.dat R (.str _) q⟩)
    | _ => exact q.elim
  | _ => cases dx <;> exact q.elim
theorem de_ix (ha : DE X a ta wa) (hb : DE X b tb wb) (hs : PlainIx b := by intro _ _; rfl) : DE X (.Subscript a b pos) (tOp (rIx X.K) ta tb) (wBin dIx wa wb) := ⟨pe_ix ix_seq ha.pe hb.pe hs, we_bin ok2_ix ha.we hb.we⟩
/-! ### slices -/
abbrev Wo := Sl → (Option Int → Sl → Prop) → Prop
def WOo (K : KT) (to : TO) (w : Wo) : Prop := ∀ (B : Addr → Prop) (G H : Hp) (σ : L2.St) (ρ : Sl) (Q : Option Int → Sl → Prop) (QV : Option Int → Hp → Prop), Rep K B G H σ ρ → w ρ Q →
  (∀ o G' H' ρ', Stp B G H G' H' → Rep K B G' H' σ ρ' → Q o ρ' → QV o H') → to σ H QV
structure DO (X : CxT) (e : Option Expr) (to : TO) (w : Wo) : Prop where
  po : PO X e to
  wo : WOo X.K to w
def wNoPart : Wo := fun ρ Q => Q none ρ
def wPart (w : We) : Wo := fun ρ Q => w ρ fun r ρ1 => match r with
  | .dat (.int i) => Q (some i) ρ1
  | _ => False
theorem do_none : DO X none tNoPart wNoPart := ⟨po_none, fun B G H σ ρ Q QV R q k => k none G H ρ .refl R q⟩
theorem do_some (h : DE X e te we) : DO X (some e) (tPart te) (wPart we) := ⟨po_some h.pe, fun B G H σ ρ Q QV R q k => h.we B G H σ ρ _ _ R q fun v G1 H1 ρ1 r S1 R1 rr q1 => by
  cases rr with
  | dat z =>
    cases z with
    | int i => exact ⟨i, rfl, k (some i) G1 H1 ρ1 S1 R1 q1⟩
    | _ => exact q1.elim
  | own => exact q1.elim
  | bor => exact q1.elim⟩
def cutP {α : Type} (xs : List α) (lo hi : Option Int) : List α := (xs.drop (HT.sIx xs.length 0 lo)).take (HT.sIx xs.length xs.length hi - HT.sIx xs.length 0 lo)
theorem cut_rp {G : Hp} {vs : List V} {ds : List PD} (r : RpAll K G vs ds) (lo hi : Option Int) : RpAll K G (cutV vs lo hi) (cutP ds lo hi) := by
  unfold cutV cutP
  rw [r.length]
  exact (r.drop _).take _
theorem cut_ints (ns : List Int) (lo hi : Option Int) : cutV (ns.map V.int) lo hi = (cutP ns lo hi).map V.int := by
  unfold cutV cutP
  rw [List.length_map, List.map_take, List.map_drop]
def rSl2 (K : PySem.W.Frag) : V → Option Int → Option Int → Hp → VK → Prop := fun x lo hi H Q => rSlL K x lo hi H Q ∨ rSlA K x lo hi H Q
def dSl (x : PD) (lo hi : Option Int) (k : Rz → Prop) : Prop := match x with
  | .lst xs => k (.own (.lst (cutP xs lo hi)))
  | .scr ns => k (.own (.lst ((cutP ns lo hi).map .int)))
  | .tup xs => k (.dat (.tup (cutP xs lo hi)))
  | _ => False
theorem cut_whole {α : Type} (xs : List α) (lo hi : Option Int) (h : HT.sIx xs.length 0 lo = 0 ∧ HT.sIx xs.length xs.length hi = xs.length) : cutP xs lo hi = xs := by
  unfold cutP
  rw [h.1, h.2]
  simp
def wSl (we : We) (wl wh : Wo) : We := fun ρ Q => we ρ fun r ρ1 => warm r ρ1 ∧ wl ρ1 fun lo ρ2 => wh ρ2 fun hi ρ3 => look r ρ3 fun x => dSl x lo hi fun r => Q r ρ3
theorem we_sl {tl th : TO} {wl wh : Wo} (h : WE K te we) (h1 : WOo K tl wl) (h2 : WOo K th wh) : WE K (tSl (rSl2 K) te tl th) (wSl we wl wh) := fun B G H σ ρ Q QV R q k =>
  h B G H σ ρ _ _ R q fun v G1 H1 ρ1 r S1 R1 rr ⟨c1, q1⟩ => by
    obtain ⟨G1', S1', R1', rr1', cc, ec⟩ := rr.cool R1 c1
    refine h1 B G1' H1 σ ρ1 _ _ R1' q1 fun lo G2 H2 ρ2 S2 R2 q2 => ?_
    refine h2 B G2 H2 σ ρ2 _ _ R2 q2 fun hi G3 H3 ρ3 S3 R3 q3 => ?_
    obtain ⟨x, ex, q3⟩ := ok_some q3
    have vw := (rr1'.stay (H' := H3) (ρ' := ρ3) cc (S2.g.trans S3.g)).vw R3 ((ec ρ3).trans ex)
    have kk : Gv K B G3 H3 σ ρ3 (fun r => Q r ρ3) QV := fun w G4 H4 res S4 R4 rr4 q4 => k w G4 H4 ρ3 res ((((S1.trans S1').trans S2).trans S3).trans S4) R4 rr4 q4
    cases x with
    | lst xs =>
      obtain ⟨a, us, rfl, ha, ra⟩ := vw.lst R3.gh
      exact .inl ⟨a, us, rfl, SqL.of ha, fun n hn => kk.new R3 hn (.lst (cut_rp ra lo hi)) q3⟩
    | scr ns =>
      obtain ⟨a, rfl, ha⟩ := vw.scr R3.gh
      refine .inl ⟨a, _, rfl, ha, fun n hn => ?_⟩
      rw [cut_ints]
      exact kk.new R3 hn (.lst (rp_ints _)) q3
    | tup xs =>
      have w := vw.tupR
      obtain ⟨a, us, rfl, ha, ra⟩ := vw.tup R3.gh
      refine .inr ⟨a, us, rfl, ha, fun hw => ?_, fun _ n hn => kk.tup R3 hn (cut_rp ra lo hi) q3⟩
      rw [ra.length] at hw
      have q3 : Q (.dat (.tup (cutP xs lo hi))) ρ3 := q3
      rw [cut_whole xs lo hi hw] at q3
      exact kk.dat R3 w q3
    | _ => exact q3.elim
theorem de_sl {lo hi : Option Expr} {tl th : TO} {wl wh : Wo} {p2 : Pos} (h : DE X e te we) (h1 : DO X lo tl wl) (h2 : DO X hi th wh) : DE X (.Subscript e (.Slice lo hi none p2) pos) (tSl (rSl2 X.K) te tl th) (wSl we wl wh) :=
  ⟨pe_slice (sl_list.or sl_tupA) h.pe h1.po h2.po, we_sl h.we h1.wo h2.wo⟩

/-! ### a slot's own thing, changed -/
theorem Rep.write {B : Addr → Prop} {G H : Hp} {σ : L2.St} {ρ : Sl} {i : Nat} {o o' : OD} {p : Addr} {ho' : HO} (R : Rep K B G H σ ρ) (hi : ρ[i]? = some (SD.own o)) (hs : σ[i]? = some (some (V.ref p))) (r : RO K G ho' o') :
    Rep K B G (upd H p ho') σ (ρ.set i (SD.own o')) ∧ Stp B G H G (upd H p ho') := by
  obtain ⟨q, ho, h1, h2, h3, h4, h5⟩ := R.own i o hi
  rw [hs] at h1; cases h1
  have hil : i < ρ.length := (List.getElem?_eq_some_iff.mp hi).1
  have S1 : Stp B G H G (upd H p ho') := ⟨Ex.refl G, fun _ _ h => h, fun _ _ h => h, fun a u hb h _ => by rw [upd_ne (nb_ne h4 hb)]; exact h, fun _ _ _ _ _ => rfl⟩
  refine ⟨⟨R.gh.right h3, R.tb.put h2 h5.nt h5.nc, R.z.step S1, fun a hb => ?_, by rw [List.length_set]; exact R.len, fun j d h => ?_, fun j u h => ?_, fun j k u w q x y z v => ?_⟩, S1⟩
  · exact (R.bh a hb).upd (nb_ne h4 hb)
  · by_cases z : j = i
    · subst z; rw [List.getElem?_set_self hil] at h; cases h
    · rw [List.getElem?_set_ne (Ne.symm z)] at h; exact R.dat j d h
  · by_cases z : j = i
    · subst z
      rw [List.getElem?_set_self hil] at h; cases h
      exact ⟨p, ho', hs, upd_same, h3, h4, r⟩
    · rw [List.getElem?_set_ne (Ne.symm z)] at h
      obtain ⟨q, hq, g1, g2, g3, g4, g5⟩ := R.own j u h
      have ne : q ≠ p := fun e => z (R.sep j i u o p h hi (by rw [g1, e]) hs)
      exact ⟨q, hq, g1, by rw [upd_ne ne]; exact g2, g3, g4, g5⟩
  · have get : ∀ m (s : OD), (ρ.set i (SD.own o'))[m]? = some (SD.own s) → ∃ s', ρ[m]? = some (SD.own s') := fun m s h => by
      by_cases z : m = i
      · subst z; exact ⟨o, hi⟩
      · rw [List.getElem?_set_ne (Ne.symm z)] at h; exact ⟨s, h⟩
    obtain ⟨u', x'⟩ := get j u x
    obtain ⟨w', y'⟩ := get k w y
    exact R.sep j k u' w' q x' y' z v
/-- the slot's own list, as it stands -/
def ownL (i : Nat) (ρ : Sl) (k : List PD → Prop) : Prop := match ρ[i]? with
  | some (.own (.lst xs)) => k xs
  | _ => False
theorem ownL_of {i : Nat} {ρ : Sl} {k : List PD → Prop} (h : ownL i ρ k) : ∃ xs, ρ[i]? = some (SD.own (.lst xs)) ∧ k xs := by
  unfold ownL at h
  split at h
  · rename_i xs e; exact ⟨xs, e, h⟩
  · exact h.elim
theorem Rep.lst {B : Addr → Prop} {G H : Hp} {σ : L2.St} {ρ : Sl} {i : Nat} {xs : List PD} (R : Rep K B G H σ ρ) (hi : ρ[i]? = some (SD.own (.lst xs))) : ∃ p vs, σ[i]? = some (some (V.ref p)) ∧ H p = some (.lst vs) ∧ RpAll K G vs xs := by
  obtain ⟨p, ho, h1, h2, h3, h4, h5⟩ := R.own i _ hi
  cases h5 with
  | lst r => exact ⟨p, _, h1, h2, r⟩
/-- xs.append(e) -/
def wAppend (i : Nat) (wa : Wa) : We := fun ρ Q => ownL i ρ fun _ => wa ρ fun rs ρ1 => frz rs ρ1 fun ds ρ2 => ownL i ρ2 fun xs => match ds with
  | [d] => xs.length < sizeLine ∧ Q (.dat .non) (ρ2.set i (.own (.lst (xs ++ [d]))))
  | _ => False
theorem RpAll.one {G : Hp} {vs : List V} {d : PD} (h : RpAll K G vs [d]) : ∃ v, vs = [v] ∧ Rp K G v d := by
  cases h with | cons h r => cases r; exact ⟨_, rfl, h⟩
theorem we_append {i : Nat} (h : WAa K t wr) : WE K (tBM K "list" rAppend (tVar i) t) (wAppend i wr) := fun B G H σ ρ Q QV R q k => by
  obtain ⟨xs0, e0, q⟩ := ownL_of q
  obtain ⟨p, vs0, hs, hp, r0⟩ := R.lst e0
  refine ⟨_, hs, Or.inl ⟨rfl, _, SqL.of hp⟩, ?_⟩
  refine h B G H σ ρ _ _ R q fun vs G1 H1 ρ1 rs S1 R1 rr q1 => ?_
  obtain ⟨⟨ds, ρ2⟩, e, q1⟩ := ok_some q1
  obtain ⟨G2, S2, R2, ra⟩ := frz_all R1 rr e
  obtain ⟨xs, e2, q1⟩ := ownL_of q1
  obtain ⟨p', vs', hs', hp', r'⟩ := R2.lst e2
  rw [hs] at hs'; cases hs'
  match ds, ra, q1 with
  | [d], ra, ⟨hz, q1⟩ =>
    obtain ⟨v, rfl, rv⟩ := ra.one
    obtain ⟨R3, S3⟩ := R2.write (ho' := .lst (vs' ++ [v])) e2 hs (.lst (r'.append (.cons rv .nil)))
    exact ⟨p, vs', v, rfl, rfl, hp', by rw [r'.length]; exact hz, k _ _ _ _ _ ((S1.trans S2).trans S3) R3 (.dat .non) q1⟩
/-- xs.extend(e) -/
def wExtend (i : Nat) (wa : Wa) : We := fun ρ Q => ownL i ρ fun _ => wa ρ fun rs ρ1 => looks rs ρ1 fun ds => ownL i ρ1 fun xs => match ds with
  | [.lst ys] => xs.length + ys.length ≤ sizeLine ∧ Q (.dat .non) (ρ1.set i (.own (.lst (xs ++ ys))))
  | _ => False
theorem we_extend {i : Nat} (h : WAa K t wr) : WE K (tBM K "list" rExtend (tVar i) t) (wExtend i wr) := fun B G H σ ρ Q QV R q k => by
  obtain ⟨xs0, e0, q⟩ := ownL_of q
  obtain ⟨p, vs0, hs, hp, r0⟩ := R.lst e0
  refine ⟨_, hs, Or.inl ⟨rfl, _, SqL.of hp⟩, ?_⟩
  refine h B G H σ ρ _ _ R q fun vs G1 H1 ρ1 rs S1 R1 rr q1 => ?_
  obtain ⟨ds, e, q1⟩ := ok_some q1
  have va := rr.vw R1 e
  obtain ⟨xs, e2, q1⟩ := ownL_of q1
  obtain ⟨p', vs', hs', hp', r'⟩ := R1.lst e2
  rw [hs] at hs'; cases hs'
  match ds, va, q1 with
  | [.lst ys], .cons v .nil, ⟨hz, q1⟩ =>
    obtain ⟨b, ws, rfl, hb, rb⟩ := v.lst R1.gh
    obtain ⟨R3, S3⟩ := R1.write (ho' := .lst (vs' ++ ws)) e2 hs (.lst (r'.append rb))
    exact ⟨p, b, vs', ws, rfl, rfl, hp', hb, by rw [r'.length, rb.length]; exact hz, k _ _ _ _ _ (S1.trans S3) R3 (.dat .non) q1⟩
/-- xs.pop(k), xs.pop() -/
def wPopAt (i : Nat) (wa : Wa) : We := fun ρ Q => ownL i ρ fun _ => wa ρ fun rs ρ1 => looks rs ρ1 fun ds => ownL i ρ1 fun xs => match ds with
  | [.int j] => (-(2 ^ 63) ≤ j ∧ j < 2 ^ 63) ∧ ok (seqIndex? j xs.length) fun k => ok (xs[k]?) fun d => Q (.dat d) (ρ1.set i (.own (.lst (xs.eraseIdx k))))
  | _ => False
theorem we_popAt {i : Nat} (h : WAa K t wr) : WE K (tBM K "list" rPopAt (tVar i) t) (wPopAt i wr) := fun B G H σ ρ Q QV R q k => by
  obtain ⟨xs0, e0, q⟩ := ownL_of q
  obtain ⟨p, vs0, hs, hp, r0⟩ := R.lst e0
  refine ⟨_, hs, Or.inl ⟨rfl, _, SqL.of hp⟩, ?_⟩
  refine h B G H σ ρ _ _ R q fun vs G1 H1 ρ1 rs S1 R1 rr q1 => ?_
  obtain ⟨ds, e, q1⟩ := ok_some q1
  have va := rr.vw R1 e
  obtain ⟨xs, e2, q1⟩ := ownL_of q1
  obtain ⟨p', vs', hs', hp', r'⟩ := R1.lst e2
  rw [hs] at hs'; cases hs'
  match ds, va, q1 with
  | [.int j], .cons v .nil, ⟨hb, q1⟩ =>
    obtain ⟨m, em, q1⟩ := ok_some q1
    obtain ⟨d, ed, q1⟩ := ok_some q1
    obtain ⟨u, hu, ru⟩ := r'.get ed
    obtain ⟨R3, S3⟩ := R1.write (ho' := .lst (vs'.eraseIdx m)) e2 hs (.lst (r'.eraseIdx m))
    exact ⟨p, vs', j, m, u, rfl, by rw [v.int], hp', hb.1, hb.2, by rw [r'.length]; exact em, hu, k _ _ _ _ _ (S1.trans S3) R3 (.dat ru) q1⟩
def wPop (i : Nat) : We := fun ρ Q => ownL i ρ fun xs => ok (xs[xs.length - 1]?) fun d => Q (.dat d) (ρ.set i (.own (.lst xs.dropLast)))
theorem we_pop {i : Nat} : WE K (tBM0 K "list" rPop (tVar i)) (wPop i) := fun B G H σ ρ Q QV R q k => by
  obtain ⟨xs, e0, q⟩ := ownL_of q
  obtain ⟨p, vs, hs, hp, r⟩ := R.lst e0
  obtain ⟨d, ed, q⟩ := ok_some q
  obtain ⟨u, hu, ru⟩ := r.get ed
  obtain ⟨R3, S3⟩ := R.write (ho' := .lst vs.dropLast) e0 hs (.lst r.dropLast)
  exact ⟨_, hs, Or.inl ⟨rfl, _, SqL.of hp⟩, p, vs, u, rfl, rfl, hp, by rw [r.length]; exact hu, k _ _ _ _ _ S3 R3 (.dat ru) q⟩
variable {x : Str} {apos cpos : Pos}
theorem de_append {i : Nat} (hv : DE X (.Name x p) (tVar i) (wVar i)) (h : DA X (e :: es) t wr) (hbase : attributeBase (.Name x p) "append" X.env (eval (.Name x p) X.env) = eval (.Name x p) X.env := by rfl)
    (hfew : ((backTo cpos (starEach (e :: es) X.env)).all (fun x => !x.1) && (backToKw cpos (keywordEach [] X.env)).all (fun x => x.1.isSome) && decide ((e :: es).length + ([] : List Keyword).length + (if ([] : List Keyword).isEmpty then 0 else 1) < 30)) = true := by rfl)
    (hline : (apos.endLine == cpos.line) = true := by rfl) (hs : starEach (e :: es) X.env = (false, eval e X.env) :: starEach es X.env := by rfl) (hplain : (backTo cpos (starEach es X.env)).any (·.1) = false := by rfl) :
    DE X (.Call (.Attribute (.Name x p) "append" apos) (e :: es) [] cpos) (tBM X.K "list" rAppend (tVar i) t) (wAppend i wr) := ⟨pe_bm PySem.F.plainAttrs_list PySem.F.slot_list_append PySem.F.type_list_append mt_append hv.pe h.pa hbase hfew hline hs hplain, we_append h.wa⟩
theorem de_extend {i : Nat} (hv : DE X (.Name x p) (tVar i) (wVar i)) (h : DA X (e :: es) t wr) (hbase : attributeBase (.Name x p) "extend" X.env (eval (.Name x p) X.env) = eval (.Name x p) X.env := by rfl)
    (hfew : ((backTo cpos (starEach (e :: es) X.env)).all (fun x => !x.1) && (backToKw cpos (keywordEach [] X.env)).all (fun x => x.1.isSome) && decide ((e :: es).length + ([] : List Keyword).length + (if ([] : List Keyword).isEmpty then 0 else 1) < 30)) = true := by rfl)
    (hline : (apos.endLine == cpos.line) = true := by rfl) (hs : starEach (e :: es) X.env = (false, eval e X.env) :: starEach es X.env := by rfl) (hplain : (backTo cpos (starEach es X.env)).any (·.1) = false := by rfl) :
    DE X (.Call (.Attribute (.Name x p) "extend" apos) (e :: es) [] cpos) (tBM X.K "list" rExtend (tVar i) t) (wExtend i wr) := ⟨pe_bm PySem.F.plainAttrs_list PySem.F.slot_list_extend PySem.F.type_list_extend mt_extend hv.pe h.pa hbase hfew hline hs hplain, we_extend h.wa⟩
theorem de_popAt {i : Nat} (hv : DE X (.Name x p) (tVar i) (wVar i)) (h : DA X (e :: es) t wr) (hbase : attributeBase (.Name x p) "pop" X.env (eval (.Name x p) X.env) = eval (.Name x p) X.env := by rfl)
    (hfew : ((backTo cpos (starEach (e :: es) X.env)).all (fun x => !x.1) && (backToKw cpos (keywordEach [] X.env)).all (fun x => x.1.isSome) && decide ((e :: es).length + ([] : List Keyword).length + (if ([] : List Keyword).isEmpty then 0 else 1) < 30)) = true := by rfl)
    (hline : (apos.endLine == cpos.line) = true := by rfl) (hs : starEach (e :: es) X.env = (false, eval e X.env) :: starEach es X.env := by rfl) (hplain : (backTo cpos (starEach es X.env)).any (·.1) = false := by rfl) :
    DE X (.Call (.Attribute (.Name x p) "pop" apos) (e :: es) [] cpos) (tBM X.K "list" rPopAt (tVar i) t) (wPopAt i wr) := ⟨pe_bm PySem.F.plainAttrs_list PySem.F.slot_list_pop PySem.F.type_list_pop mt_popAt hv.pe h.pa hbase hfew hline hs hplain, we_popAt h.wa⟩
theorem de_pop {i : Nat} (hv : DE X (.Name x p) (tVar i) (wVar i)) (hbase : attributeBase (.Name x p) "pop" X.env (eval (.Name x p) X.env) = eval (.Name x p) X.env := by rfl) (hline : (apos.endLine == cpos.line) = true := by rfl) :
    DE X (.Call (.Attribute (.Name x p) "pop" apos) [] [] cpos) (tBM0 X.K "list" rPop (tVar i)) (wPop i) := ⟨pe_bm0 PySem.F.plainAttrs_list PySem.F.slot_list_pop PySem.F.type_list_pop mt_pop hv.pe hbase hline, we_pop⟩
end
end DL

set_option Elab.async false
set_option linter.all false
set_option maxRecDepth 100000
set_option maxHeartbeats 2000000
namespace DL
open PySem L2
/-- what is wanted behind a statement -/
structure On where
  nx : Sl → Prop
  rt : Rz → Sl → Prop
  bk : Sl → Prop := fun _ => False
  ct : Sl → Prop := fun _ => False
abbrev Ws := On → Sl → Prop
/-- slots that are never stored to stay what they were -/
def Pn (T : Nat → Bool) (S0 σ : L2.St) : Prop := ∀ i, T i = true → σ[i]? = S0[i]?
theorem Pn.set {T : Nat → Bool} {S0 σ : L2.St} (h : Pn T S0 σ) {i : Nat} {v : Option V} (hi : T i = false) : Pn T S0 (σ.set i v) := fun j hj => by
  rw [List.getElem?_set_ne (fun z => by rw [z, hj] at hi; cases hi)]
  exact h j hj
def WSs (K : KT) (T : Nat → Bool) (ts : TS) (w : Ws) : Prop := ∀ (B : Addr → Prop) (G H : Hp) (σ S0 : L2.St) (ρ : Sl) (O : On) (D : Ends), Rep K B G H σ ρ → Pn T S0 σ → w O ρ →
  (∀ G' H' σ' ρ', Stp B G H G' H' → Rep K B G' H' σ' ρ' → Pn T S0 σ' → O.nx ρ' → D.nx σ' H') →
  (∀ G' H' σ' ρ' v r, Stp B G H G' H' → Rep K B G' H' σ' ρ' → Pn T S0 σ' → RR K B G' H' σ' ρ' v r → O.rt r ρ' → D.rt v H') →
  (∀ G' H' σ' ρ', Stp B G H G' H' → Rep K B G' H' σ' ρ' → Pn T S0 σ' → O.bk ρ' → D.bk σ' H') →
  (∀ G' H' σ' ρ', Stp B G H G' H' → Rep K B G' H' σ' ρ' → Pn T S0 σ' → O.ct ρ' → D.ct σ' H') → ts D σ H
structure DS (X : CxT) (T : Nat → Bool) (st : Stmt) (ts : TS) (w : Ws) : Prop where
  ps : PS X st ts
  ws : WSs X.K T ts w
structure DSs (X : CxT) (T : Nat → Bool) (st : List Stmt) (ts : TS) (w : Ws) : Prop where
  pss : PSs X st ts
  ws : WSs X.K T ts w
section
variable {X : CxT} {K : KT} {T : Nat → Bool} {st : Stmt} {rest : List Stmt} {t u : TS} {wt wu : Ws} {e : Expr} {te : TE} {we : We} {pos : Pos}
def wSeq (w u : Ws) : Ws := fun O ρ => w { O with nx := u O } ρ
def wNext : Ws := fun O ρ => O.nx ρ
theorem ws_next : WSs K T tNext wNext := fun B G H σ S0 ρ O D R P q kn kr kb kc => kn G H σ ρ .refl R P q
theorem ws_seq (h1 : WSs K T t wt) (h2 : WSs K T u wu) : WSs K T (tSeq t u) (wSeq wt wu) := fun B G H σ S0 ρ O D R P q kn kr kb kc =>
  h1 B G H σ S0 ρ _ _ R P q
    (fun G1 H1 σ1 ρ1 S1 R1 P1 q1 => h2 B G1 H1 σ1 S0 ρ1 O D R1 P1 q1 (fun G2 H2 σ2 ρ2 S2 => kn G2 H2 σ2 ρ2 (S1.trans S2)) (fun G2 H2 σ2 ρ2 v r S2 => kr G2 H2 σ2 ρ2 v r (S1.trans S2)) (fun G2 H2 σ2 ρ2 S2 => kb G2 H2 σ2 ρ2 (S1.trans S2)) (fun G2 H2 σ2 ρ2 S2 => kc G2 H2 σ2 ρ2 (S1.trans S2)))
    kr kb kc
theorem dss_nil : DSs X T [] tNext wNext := ⟨pss_nil, ws_next⟩
theorem dss_cons (h1 : DS X T st t wt) (h2 : DSs X T rest u wu) : DSs X T (st :: rest) (tSeq t u) (wSeq wt wu) := ⟨pss_cons h1.ps h2.pss, ws_seq h1.ws h2.ws⟩
theorem dss_one (h1 : DS X T st t wt) : DSs X T [st] t wt := ⟨pss_one h1.ps, h1.ws⟩
theorem ds_pass : DS X T (.Pass pos) tNext wNext := ⟨ps_pass, ws_next⟩
def wBreak : Ws := fun O ρ => O.bk ρ
def wCont : Ws := fun O ρ => O.ct ρ
theorem ds_break : DS X T (.Break pos) tBreak wBreak := ⟨ps_break, fun B G H σ S0 ρ O D R P q kn kr kb kc => kb G H σ ρ .refl R P q⟩
theorem ds_continue : DS X T (.Continue pos) tCont wCont := ⟨ps_continue, fun B G H σ S0 ρ O D R P q kn kr kb kc => kc G H σ ρ .refl R P q⟩
theorem ds_doc {x j pos pos'} : DS X T (.Expr (.Constant (.str x) j pos) pos') tNext wNext := ⟨ps_doc, ws_next⟩
def wDrop (we : We) : Ws := fun O ρ => we ρ fun _ ρ1 => O.nx ρ1
theorem ds_expr (h : DE X e te we) (hs : swapsWith e none pos.line X.env = pure false := by rfl) : DS X T (.Expr e pos) (tDrop te) (wDrop we) := ⟨ps_expr h.pe hs, fun B G H σ S0 ρ O D R P q kn kr kb kc =>
  h.we B G H σ ρ _ _ R q fun v G1 H1 ρ1 r S1 R1 rr q1 => kn G1 H1 σ ρ1 S1 R1 P q1⟩
def wRet (we : We) : Ws := fun O ρ => we ρ fun r ρ1 => O.rt r ρ1
theorem ds_ret (h : DE X e te we) : DS X T (.Return (some e) pos) (tRet te) (wRet we) := ⟨ps_ret h.pe, fun B G H σ S0 ρ O D R P q kn kr kb kc =>
  h.we B G H σ ρ _ _ R q fun v G1 H1 ρ1 r S1 R1 rr q1 => kr G1 H1 σ ρ1 v r S1 R1 P rr q1⟩
def wRetN : Ws := fun O ρ => O.rt (.dat .non) ρ
theorem ds_retN : DS X T (.Return none pos) tRetN wRetN := ⟨ps_retN, fun B G H σ S0 ρ O D R P q kn kr kb kc => kr G H σ ρ .non _ .refl R P (.dat .non) q⟩
variable {c : Expr} {a b : List Stmt} {tc : TT} {wc : Wt}
def wIfS (wc : Wt) (w u : Ws) : Ws := fun O ρ => wc ρ fun b ρ1 => match b with
  | true => w O ρ1
  | false => u O ρ1
theorem ds_if (hc : DT X c tc wc) (ha : DSs X T a t wt) (hb : DSs X T b u wu) : DS X T (.If c a b pos) (tIfS tc t u) (wIfS wc wt wu) := ⟨ps_if hc.pt ha.pss hb.pss, fun B G H σ S0 ρ O D R P q kn kr kb kc =>
  hc.wt B G H σ ρ _ (fun b H1 => if b = true then t D σ H1 else u D σ H1) R q fun b G1 H1 ρ1 S1 R1 q1 => by
    cases b with
    | true => rw [if_pos rfl]; exact ha.ws B G1 H1 σ S0 ρ1 O D R1 P q1 (fun G2 H2 σ2 ρ2 S2 => kn G2 H2 σ2 ρ2 (S1.trans S2)) (fun G2 H2 σ2 ρ2 v r S2 => kr G2 H2 σ2 ρ2 v r (S1.trans S2)) (fun G2 H2 σ2 ρ2 S2 => kb G2 H2 σ2 ρ2 (S1.trans S2)) (fun G2 H2 σ2 ρ2 S2 => kc G2 H2 σ2 ρ2 (S1.trans S2))
    | false => rw [if_neg Bool.false_ne_true]; exact hb.ws B G1 H1 σ S0 ρ1 O D R1 P q1 (fun G2 H2 σ2 ρ2 S2 => kn G2 H2 σ2 ρ2 (S1.trans S2)) (fun G2 H2 σ2 ρ2 v r S2 => kr G2 H2 σ2 ρ2 v r (S1.trans S2)) (fun G2 H2 σ2 ρ2 S2 => kb G2 H2 σ2 ρ2 (S1.trans S2)) (fun G2 H2 σ2 ρ2 S2 => kc G2 H2 σ2 ρ2 (S1.trans S2))⟩
/-! ### stores to a name -/
/-- the slot i takes a result -/
theorem Rep.emp {B : Addr → Prop} {G H : Hp} {σ : L2.St} {ρ : Sl} (R : Rep K B G H σ ρ) (i : Nat) : Rep K B G H σ (ρ.set i .emp) := by
  have get : ∀ (j : Nat) (s : SD), (ρ.set i .emp)[j]? = some s → s ≠ .emp → ρ[j]? = some s := fun j s h hs => by
    by_cases z : j = i
    · subst z
      by_cases hl : j < ρ.length
      · rw [List.getElem?_set_self hl] at h; cases h; exact absurd rfl hs
      · rw [List.getElem?_eq_none (by rw [List.length_set]; omega)] at h; cases h
    · rw [List.getElem?_set_ne (Ne.symm z)] at h; exact h
  refine ⟨R.gh, R.tb, R.z, R.bh, by rw [List.length_set]; exact R.len, fun j d h => R.dat j d (get j _ h (by intro z; cases z)), fun j o h => R.own j o (get j _ h (by intro z; cases z)), fun j k o u p x y z w => R.sep j k o u p (get j _ x (by intro z; cases z)) (get k _ y (by intro z; cases z)) z w⟩
theorem Rep.store {B : Addr → Prop} {G H : Hp} {σ : L2.St} {ρ : Sl} (R : Rep K B G H σ ρ) {i : Nat} {v : V} {s : SD} (hd : ∀ d, s = .dat d → Rp K G v d)
    (ho : ∀ o, s = .own o → ∃ p ho, v = .ref p ∧ H p = some ho ∧ G p = none ∧ ¬ B p ∧ RO K G ho o ∧ ∀ (j : Nat) (u : OD), j ≠ i → ρ[j]? = some (SD.own u) → σ[j]? ≠ some (some (V.ref p))) : Rep K B G H (σ.set i (some v)) (ρ.set i s) := by
  have get : ∀ (j : Nat) (s' : SD), (ρ.set i s)[j]? = some s' → (j = i ∧ s' = s ∧ (σ.set i (some v))[j]? = some (some v)) ∨ (j ≠ i ∧ ρ[j]? = some s' ∧ (σ.set i (some v))[j]? = σ[j]?) := fun j s' h => by
    by_cases z : j = i
    · subst z
      by_cases hl : j < ρ.length
      · rw [List.getElem?_set_self hl] at h; cases h
        exact .inl ⟨rfl, rfl, List.getElem?_set_self (by rw [R.len]; exact hl)⟩
      · rw [List.getElem?_eq_none (by rw [List.length_set]; omega)] at h; cases h
    · rw [List.getElem?_set_ne (Ne.symm z)] at h
      exact .inr ⟨z, h, List.getElem?_set_ne (Ne.symm z)⟩
  refine ⟨R.gh, R.tb, R.z, R.bh, by rw [List.length_set, List.length_set]; exact R.len, fun j d h => ?_, fun j o h => ?_, fun j k o u p x y z w => ?_⟩
  · rcases get j _ h with ⟨rfl, e, g⟩ | ⟨_, e, g⟩
    · exact ⟨v, g, hd d e.symm⟩
    · rw [g]; exact R.dat j d e
  · rcases get j _ h with ⟨rfl, e, g⟩ | ⟨_, e, g⟩
    · obtain ⟨p, hx, rfl, h1, h2, h3, h4, _⟩ := ho o e.symm
      exact ⟨p, hx, g, h1, h2, h3, h4⟩
    · rw [g]; exact R.own j o e
  · rcases get j _ x with ⟨rfl, e, g⟩ | ⟨n, e, g⟩
    · rcases get k _ y with ⟨rfl, e', g'⟩ | ⟨n', e', g'⟩
      · rfl
      · rw [g] at z; cases z
        obtain ⟨p', ho', ep, _, _, _, _, h5⟩ := ho o e.symm
        cases ep
        rw [g'] at w
        exact absurd w (h5 k u n' e')
    · rcases get k _ y with ⟨rfl, e', g'⟩ | ⟨n', e', g'⟩
      · rw [g'] at w; cases w
        obtain ⟨p', ho', ep, _, _, _, _, h5⟩ := ho u e'.symm
        cases ep
        rw [g] at z
        exact absurd z (h5 j o n e)
      · rw [g] at z; rw [g'] at w
        exact R.sep j k o u p e e' z w
/-- a result becomes what a slot holds: a slot's own thing moves -/
def into (r : Rz) (i : Nat) (ρ : Sl) : Option Sl := match r with
  | .dat d => some (ρ.set i (.dat d))
  | .own o => some (ρ.set i (.own o))
  | .bor j => match ρ[j]? with
    | some (.dat d) => some (ρ.set i (.dat d))
    | some (.own o) => if j = i then some ρ else some ((ρ.set j .emp).set i (.own o))
    | _ => none
theorem rep_into {B : Addr → Prop} {G H : Hp} {σ : L2.St} {ρ ρ' : Sl} {i : Nat} {v : V} {r : Rz} (R : Rep K B G H σ ρ) (h : RR K B G H σ ρ v r) (e : into r i ρ = some ρ') : Rep K B G H (σ.set i (some v)) ρ' := by
  cases h with
  | dat q => cases e; exact R.store (fun d z => by cases z; exact q) (fun o z => by cases z)
  | own h1 h2 h3 h4 h5 => cases e; exact R.store (fun d z => by cases z) (fun o z => by cases z; exact ⟨_, _, rfl, h1, h2, h3, h4, fun j u _ hj => h5 j u hj⟩)
  | bor q =>
    rename_i j
    unfold into at e
    cases ej : ρ[j]? with
    | none => simp only [ej] at e; cases e
    | some s =>
      cases s with
      | emp => simp only [ej] at e; cases e
      | dat d =>
        simp only [ej] at e; cases e
        obtain ⟨w, w1, w2⟩ := R.dat _ _ ej
        rw [q] at w1; cases w1
        exact R.store (fun d z => by cases z; exact w2) (fun o z => by cases z)
      | own o =>
        simp only [ej] at e
        obtain ⟨p, ho, w1, h1, h2, h3, h4⟩ := R.own _ _ ej
        rw [q] at w1; cases w1
        by_cases z : j = i
        · rw [if_pos z] at e; cases e
          subst z
          have : σ.set j (some (V.ref p)) = σ := by
            apply List.ext_getElem?
            intro m
            by_cases hm : m = j
            · subst hm
              rw [List.getElem?_set_self (List.getElem?_eq_some_iff.mp q).1, q]
            · rw [List.getElem?_set_ne (Ne.symm hm)]
          rw [this]; exact R
        · rw [if_neg z] at e; cases e
          refine (R.emp j).store (fun d z => by cases z) (fun o' z' => ?_)
          cases z'
          refine ⟨p, ho, rfl, h1, h2, h3, h4, fun m u hm hj hq => ?_⟩
          by_cases hmj : m = j
          · subst hmj
            rw [List.getElem?_set_self (List.getElem?_eq_some_iff.mp ej).1] at hj; cases hj
          · rw [List.getElem?_set_ne (Ne.symm hmj)] at hj
            exact hmj (R.sep m j u o p hj ej hq q)
/-- x = e -/
def wSet (i : Nat) (we : We) : Ws := fun O ρ => we ρ fun r ρ1 => ok (into r i ρ1) O.nx
theorem ws_set {i : Nat} (hi : T i = false) (h : WE K te we) : WSs K T (tAsg te (gName i)) (wSet i we) := fun B G H σ S0 ρ O D R P q kn kr kb kc =>
  h B G H σ ρ _ _ R q fun v G1 H1 ρ1 r S1 R1 rr q1 => by
    obtain ⟨ρ2, e, q1⟩ := ok_some q1
    exact kn G1 H1 _ ρ2 S1 (rep_into R1 rr e) (P.set hi) q1
/-- x = e, e frozen -/
def wSetF (i : Nat) (we : We) : Ws := fun O ρ => we ρ fun r ρ1 => warm r ρ1 ∧ frz [r.cool] ρ1 fun ds ρ2 => match ds with
  | [d] => O.nx (ρ2.set i (.dat d))
  | _ => False
theorem ws_setF {i : Nat} (hi : T i = false) (h : WE K te we) : WSs K T (tAsg te (gName i)) (wSetF i we) := fun B G H σ S0 ρ O D R P q kn kr kb kc =>
  h B G H σ ρ _ _ R q fun v G1 H1 ρ1 r S1 R1 rr ⟨c1, q1⟩ => by
    obtain ⟨G1', S1', R1', rr1', cc, ec⟩ := rr.cool R1 c1
    obtain ⟨⟨ds, ρ2⟩, e, q1⟩ := ok_some q1
    obtain ⟨G2, S2, R2, ra⟩ := frz_all R1' (.cons rr1' cc .nil) e
    match ds, ra, q1 with
    | [d], ra, q1 =>
      obtain ⟨w, e, rw'⟩ := ra.one
      cases e
      exact kn G2 H1 _ _ ((S1.trans S1').trans S2) (R2.store (fun d' z => by cases z; exact rw') (fun o z => by cases z)) (P.set hi) q1
variable {x : Str} {pos' : Pos}
theorem ds_set {i : Nat} (hT : T i = false) (hN : X.N.Nodup) (hi : X.N[i]? = some x) (hx : Loc X.env.scope x) (h : DE X e te we) (hs : swapsWith e (some (.Name x pos')) pos.line X.env = pure false := by rfl) (hf : X.fn x = true ∨ X.env.scope.names.lookup x = some .local := by first | exact .inl rfl | exact .inr rfl | assumption) :
    DS X T (.Assign [.Name x pos'] e pos) (tAsg te (gName i)) (wSet i we) := ⟨ps_set hN hi hx h.pe hs hf, ws_set hT h.we⟩
theorem ds_setF {i : Nat} (hT : T i = false) (hN : X.N.Nodup) (hi : X.N[i]? = some x) (hx : Loc X.env.scope x) (h : DE X e te we) (hs : swapsWith e (some (.Name x pos')) pos.line X.env = pure false := by rfl) (hf : X.fn x = true ∨ X.env.scope.names.lookup x = some .local := by first | exact .inl rfl | exact .inr rfl | assumption) :
    DS X T (.Assign [.Name x pos'] e pos) (tAsg te (gName i)) (wSetF i we) := ⟨ps_set hN hi hx h.pe hs hf, ws_setF hT h.we⟩
/-- a, b = x, y -/
def wPar (i j : Nat) (wa : Wa) : Ws := fun O ρ => wa ρ fun rs ρ1 => frz rs ρ1 fun ds ρ2 => match ds with
  | [d, d'] => O.nx ((ρ2.set i (.dat d)).set j (.dat d'))
  | _ => False
theorem ws_par {i j : Nat} {ta : TA} {wa : Wa} (hi : T i = false) (hj : T j = false) (h : WAa K ta wa) : WSs K T (tPar i j ta) (wPar i j wa) := fun B G H σ S0 ρ O D R P q kn kr kb kc =>
  h B G H σ ρ _ _ R q fun vs G1 H1 ρ1 rs S1 R1 rr q1 => by
    obtain ⟨⟨ds, ρ2⟩, e, q1⟩ := ok_some q1
    obtain ⟨G2, S2, R2, ra⟩ := frz_all R1 rr e
    match ds, ra, q1 with
    | [d, d'], .cons h1 (.cons h2 .nil), q1 =>
      exact ⟨_, _, rfl, kn G2 H1 _ _ (S1.trans S2) ((R2.store (fun d' z => by cases z; exact h1) (fun o z => by cases z)).store (fun d' z => by cases z; exact h2) (fun o z => by cases z)) ((P.set hi).set hj) q1⟩
/-- a, b = x, y where what is made for x, y stays one's own: each result to its slot -/
theorem ds_par {i j : Nat} {x y : Str} {a b : Expr} {ta : TA} {wa : Wa} {px py pt : Pos} {kt k2 pt2} (hTi : T i = false) (hTj : T j = false) (hc : X.calm = true) (hN : X.N.Nodup) (hi : X.N[i]? = some x) (hj : X.N[j]? = some y) (hij : i ≠ j)
    (hx : X.env.scope.names.lookup x = some .local) (hy : X.env.scope.names.lookup y = some .local) (ha : DA X [a, b] ta wa)
    (hw : swappedStores [.Tuple [.Name x px, .Name y py] kt pt] (.Tuple [a, b] k2 pt2) X.env = pure (some [x, y]))
    (hs : swapsWithSole [.Tuple [.Name x px, .Name y py] kt pt] (.Tuple [a, b] k2 pt2) pos.line X.env = pure false := by rfl) :
    DS X T (.Assign [.Tuple [.Name x px, .Name y py] kt pt] (.Tuple [a, b] k2 pt2) pos) (tPar i j ta) (wPar i j wa) := ⟨ps_par hc hN hi hj hij hx hy ha.pa hw hs, ws_par hTi hTj ha.wa⟩
/-! ### targets -/
abbrev Wg := PD → Sl → (Sl → Prop) → Prop
def WGg (K : KT) (T : Nat → Bool) (g : TG) (w : Wg) : Prop := ∀ (B : Addr → Prop) (G H : Hp) (σ S0 : L2.St) (ρ : Sl) (v : V) (d : PD) (Q : Sl → Prop) (QV : L2.St → Hp → Prop), Rep K B G H σ ρ → Pn T S0 σ → Rp K G v d → w d ρ Q →
  (∀ σ' ρ', Rep K B G H σ' ρ' → Pn T S0 σ' → Q ρ' → QV σ' H) → g v σ H QV
def wName (i : Nat) : Wg := fun d ρ Q => Q (ρ.set i (.dat d))
theorem wg_name {i : Nat} (hi : T i = false) : WGg K T (gName i) (wName i) := fun B G H σ S0 ρ v d Q QV R P r q k =>
  k _ _ (R.store (fun d' z => by cases z; exact r) (fun o z => by cases z)) (P.set hi) q
abbrev Wgs := List PD → Sl → (Sl → Prop) → Prop
def WGs (K : KT) (T : Nat → Bool) (g : TGs) (w : Wgs) : Prop := ∀ (B : Addr → Prop) (G H : Hp) (σ S0 : L2.St) (ρ : Sl) (vs : List V) (ds : List PD) (Q : Sl → Prop) (QV : L2.St → Hp → Prop), Rep K B G H σ ρ → Pn T S0 σ → RpAll K G vs ds → w ds ρ Q →
  (∀ σ' ρ', Rep K B G H σ' ρ' → Pn T S0 σ' → Q ρ' → QV σ' H) → g vs σ H QV
def wgNil : Wgs := fun ds ρ Q => match ds with
  | [] => Q ρ
  | _ => False
def wgCons (w : Wg) (u : Wgs) : Wgs := fun ds ρ Q => match ds with
  | d :: ds => w d ρ fun ρ' => u ds ρ' Q
  | [] => False
theorem wgs_nil : WGs K T gNil wgNil := fun B G H σ S0 ρ vs ds Q QV R P r q k => by
  cases r with
  | nil => exact ⟨rfl, k σ ρ R P q⟩
  | cons => exact q.elim
theorem wgs_cons {g : TG} {u : TGs} {w : Wg} {wu : Wgs} (h : WGg K T g w) (h' : WGs K T u wu) : WGs K T (gCons g u) (wgCons w wu) := fun B G H σ S0 ρ vs ds Q QV R P r q k => by
  cases r with
  | nil => exact q.elim
  | cons r rr => exact ⟨_, _, rfl, h B G H σ S0 ρ _ _ _ _ R P r q fun σ' ρ' R' P' q' => h' B G H σ' S0 ρ' _ _ Q QV R' P' rr q' k⟩
def wgTup (n : Nat) (w : Wgs) : Wg := fun d ρ Q => match d with
  | .tup ds => ds.length = n ∧ w ds ρ Q
  | _ => False
theorem wg_tup {n : Nat} {g : TGs} {w : Wgs} (h : WGs K T g w) : WGg K T (gTup K n g) (wgTup n w) := fun B G H σ S0 ρ v d Q QV R P r q k => by
  cases r with
  | tup hs ra => exact ⟨_, _, rfl, ex_t R.gh hs, by rw [ra.length]; exact q.1, h B G H σ S0 ρ _ _ Q QV R P ra q.2 k⟩
  | _ => exact q.elim
structure DG (X : CxT) (T : Nat → Bool) (tg : Expr) (g : TG) (w : Wg) : Prop where
  pg : PG X tg g
  wg : WGg X.K T g w
structure DGs (X : CxT) (T : Nat → Bool) (tg : List Expr) (g : TGs) (w : Wgs) : Prop where
  pgs : PGs X tg g
  wgs : WGs X.K T g w
theorem dg_name {i : Nat} (hT : T i = false) (hN : X.N.Nodup) (hi : X.N[i]? = some x) (hx : Loc X.env.scope x) (hf : X.fn x = true ∨ X.env.scope.names.lookup x = some .local := by first | exact .inl rfl | exact .inr rfl | assumption) : DG X T (.Name x pos) (gName i) (wName i) := ⟨pg_name hN hi hx hf, wg_name hT⟩
theorem dgs_nil : DGs X T [] gNil wgNil := ⟨pgs_nil, wgs_nil⟩
theorem dgs_cons {e : Expr} {es : List Expr} {g : TG} {u : TGs} {w : Wg} {wu : Wgs} (h : DG X T e g w) (h' : DGs X T es u wu) (hs : (assignEach (e :: es) X.env).map (·.2) = assign e X.env :: (assignEach es X.env).map (·.2) := by rfl) : DGs X T (e :: es) (gCons g u) (wgCons w wu) := ⟨pgs_cons h.pg h'.pgs hs, wgs_cons h.wg h'.wgs⟩
theorem dg_tup {es : List Expr} {k : Nat} {g : TGs} {w : Wgs} {n : Nat} (hc : X.calm = true) (h : DGs X T es g w) (hn : (assignEach es X.env).length = n := by rfl) (hst : (assignEach es X.env).findIdx? (·.1) = none := by rfl) : DG X T (.Tuple es k pos) (gTup X.K n g) (wgTup n w) := ⟨pg_tup hc h.pgs hn hst, wg_tup h.wgs⟩
/-- (a, b, ..) = e -/
def wUnp (we : We) (wg : Wg) : Ws := fun O ρ => we ρ fun r ρ1 => warm r ρ1 ∧ frz [r.cool] ρ1 fun ds ρ2 => match ds with
  | [d] => wg d ρ2 O.nx
  | _ => False
theorem ws_unp {g : TG} {w : Wg} (h : WE K te we) (hg : WGg K T g w) : WSs K T (tAsg te g) (wUnp we w) := fun B G H σ S0 ρ O D R P q kn kr kb kc =>
  h B G H σ ρ _ _ R q fun v G1 H1 ρ1 r S1 R1 rr ⟨c1, q1⟩ => by
    obtain ⟨G1', S1', R1', rr1', cc, ec⟩ := rr.cool R1 c1
    obtain ⟨⟨ds, ρ2⟩, e, q1⟩ := ok_some q1
    obtain ⟨G2, S2, R2, ra⟩ := frz_all R1' (.cons rr1' cc .nil) e
    match ds, ra, q1 with
    | [d], ra, q1 =>
      obtain ⟨w, e, rw'⟩ := ra.one
      cases e
      exact hg B G2 H1 σ S0 ρ2 v d O.nx D.nx R2 P rw' q1 fun σ' ρ' R' P' q' => kn G2 H1 σ' ρ' ((S1.trans S1').trans S2) R' P' q'
theorem ds_unp {tg : Expr} {g : TG} {w : Wg} (h : DE X e te we) (hg : DG X T tg g w) (hs : swapsWithSole [tg] e pos.line X.env = pure false := by rfl) (hw : swappedStores [tg] e X.env = pure none := by rfl) (h1 : (assignEach [tg] X.env).map (·.2) = [assign tg X.env] := by rfl) :
    DS X T (.Assign [tg] e pos) (tAsg te g) (wUnp we w) := ⟨ps_asg h.pe hg.pg hs hw h1, ws_unp h.we hg.wg⟩
/-- xs[i] = e, xs a slot's own list -/
def wSetIx (i : Nat) (we wi : We) : Ws := fun O ρ => we ρ fun r ρ1 => warm r ρ1 ∧ frz [r.cool] ρ1 fun ds ρ2 => ownL i ρ2 fun _ => wi ρ2 fun ri ρ3 => match ds, ri with
  | [d], .dat (.int k) => ownL i ρ3 fun xs => ok (ixN xs.length k) fun j => O.nx (ρ3.set i (.own (.lst (xs.set j d))))
  | _, _ => False
theorem ws_setIx {i : Nat} {ti : TE} {wi : We} (h : WE K te we) (h' : WE K ti wi) : WSs K T (tAsg te (gSub (tVar i) ti rSetL)) (wSetIx i we wi) := fun B G H σ S0 ρ O D R P q kn kr kb kc =>
  h B G H σ ρ _ _ R q fun v G1 H1 ρ1 r S1 R1 rr ⟨c1, q1⟩ => by
    obtain ⟨G1', S1', R1', rr1', cc, ec⟩ := rr.cool R1 c1
    obtain ⟨⟨ds, ρ2⟩, e, q1⟩ := ok_some q1
    obtain ⟨G2, S2, R2, ra⟩ := frz_all R1' (.cons rr1' cc .nil) e
    obtain ⟨xs0, e0, q1⟩ := ownL_of q1
    obtain ⟨p, vs0, hs, _, _⟩ := R2.lst e0
    refine ⟨_, hs, ?_⟩
    refine h' B G2 H1 σ ρ2 _ _ R2 q1 fun u G3 H3 ρ3 ri S3 R3 rr3 q3 => ?_
    match ds, ri, ra, rr3, q3 with
    | [d], .dat (.int k), ra, .dat (.int _), q3 =>
      obtain ⟨w, ew, rw'⟩ := ra.one
      cases ew
      obtain ⟨xs, e2, q3⟩ := ownL_of q3
      obtain ⟨j, ej, q3⟩ := ok_some q3
      obtain ⟨p', vs, hs', hp, r'⟩ := R3.lst e2
      rw [hs] at hs'; cases hs'
      obtain ⟨R4, S4⟩ := R3.write (ho' := .lst (vs.set j v)) e2 hs (.lst (r'.set (rw'.mono S3.g) j))
      exact ⟨p, vs, k, j, rfl, rfl, hp, by rw [r'.length]; exact ej, kn G3 _ σ _ ((((S1.trans S1').trans S2).trans S3).trans S4) R4 P q3⟩
variable {o i0 : Expr}
theorem ds_setIx {i : Nat} {ti : TE} {wi : We} {p2 : Pos} (h : DE X e te we) (ho : DE X (.Name x p2) (tVar i) (wVar i)) (h' : DE X i0 ti wi) (ha : ∀ v, assign (.Subscript (.Name x p2) i0 pos') X.env v = (do
      let ov ← holding [v] (eval (.Name x p2) X.env)
      let iv ← holding [v, ov] (eval i0 X.env)
      standAt pos'
      holding [v, ov, iv] (setItem ov iv v)
      release [v, ov, iv] []) := by intro _; rfl) (hs : swapsWithSole [.Subscript (.Name x p2) i0 pos'] e pos.line X.env = pure false := by rfl) (hw : swappedStores [.Subscript (.Name x p2) i0 pos'] e X.env = pure none := by rfl) (h1 : (assignEach [.Subscript (.Name x p2) i0 pos'] X.env).map (·.2) = [assign (.Subscript (.Name x p2) i0 pos') X.env] := by rfl) :
    DS X T (.Assign [.Subscript (.Name x p2) i0 pos'] e pos) (tAsg te (gSub (tVar i) ti rSetL)) (wSetIx i we wi) := ⟨ps_asg h.pe (pg_sub ho.pe h'.pe set_list ha) hs hw h1, ws_setIx h.we h'.we⟩
end
end DL

set_option Elab.async false
set_option linter.all false
set_option maxRecDepth 100000
set_option maxHeartbeats 2000000
namespace DL
open PySem L2
section
variable {X : CxT} {K : KT} {T : Nat → Bool} {e : Expr} {es : List Expr} {te : TE} {t : TA} {we : We} {wr : Wa} {pos : Pos}
/-! ### results that stay one's own: a, b = x, y -/
def adr (v : V) (r : Rz) (a : Addr) : Prop := ∃ o, r = .own o ∧ v = .ref a
inductive RRh (K : KT) (G H : Hp) (σ : L2.St) (ρ : Sl) : (Addr → Prop) → List V → List Rz → Prop
  | nil {B : Addr → Prop} : RRh K G H σ ρ B [] []
  | cons {B : Addr → Prop} {v : V} {vs : List V} {r : Rz} {rs : List Rz} : RR K B G H σ ρ v r → RRh K G H σ ρ (fun a => B a ∨ adr v r a) vs rs → RRh K G H σ ρ B (v :: vs) (r :: rs)
def WAh (K : KT) (ta : TA) (w : Wa) : Prop := ∀ (B : Addr → Prop) (G H : Hp) (σ : L2.St) (ρ : Sl) (Q : List Rz → Sl → Prop) (QV : List V → Hp → Prop), Rep K B G H σ ρ → w ρ Q →
  (∀ vs G' H' ρ' rs, Stp B G H G' H' → Rep K B G' H' σ ρ' → RRh K G' H' σ ρ' B vs rs → Q rs ρ' → QV vs H') → ta σ H QV
def wConsH (we : We) (wr : Wa) : Wa := fun ρ Q => we ρ fun r ρ1 => wr ρ1 fun rs ρ2 => Q (r :: rs) ρ2
theorem Rep.weak {B B' : Addr → Prop} {G H : Hp} {σ : L2.St} {ρ : Sl} (R : Rep K B' G H σ ρ) (b0 : ∀ a, K.B0 a → B a) (w : ∀ a, B a → B' a) : Rep K B G H σ ρ :=
  ⟨R.gh, R.tb, ⟨b0, R.z.s, R.z.m, R.z.m2⟩, fun a h => R.bh a (w a h), R.len, R.dat, fun i o h => let ⟨p, ho, h1, h2, h3, h4, h5⟩ := R.own i o h; ⟨p, ho, h1, h2, h3, fun z => h4 (w p z), h5⟩, R.sep⟩
/-- a temporary is kept while others are reckoned -/
theorem Rep.keep {B : Addr → Prop} {G H : Hp} {σ : L2.St} {ρ : Sl} {v : V} {r : Rz} (R : Rep K B G H σ ρ) (h : RR K B G H σ ρ v r) : Rep K (fun a => B a ∨ adr v r a) G H σ ρ := by
  refine ⟨R.gh, R.tb, R.z.more fun _ z => .inl z, fun a ha => ?_, R.len, R.dat, fun i o hi => ?_, R.sep⟩
  · rcases ha with ha | ⟨o, rfl, rfl⟩
    · exact R.bh a ha
    · cases h with
      | own h1 _ _ h4 => exact ⟨_, h1, h4.nt⟩
  · obtain ⟨p, ho, h1, h2, h3, h4, h5⟩ := R.own i o hi
    refine ⟨p, ho, h1, h2, h3, fun z => ?_, h5⟩
    rcases z with z | ⟨u, rfl, rfl⟩
    · exact h4 z
    · cases h with
      | own _ _ _ _ g5 => exact g5 i o hi h1
theorem RR.kept {B : Addr → Prop} {G H G' H' : Hp} {σ : L2.St} {ρ ρ' : Sl} {v : V} {r : Rz} (h : RR K B G H σ ρ v r) (S : Stp (fun a => B a ∨ adr v r a) G H G' H') (R' : Rep K (fun a => B a ∨ adr v r a) G' H' σ ρ') : RR K B G' H' σ ρ' v r := by
  cases h with
  | dat q => exact .dat (q.mono S.g)
  | bor q => exact .bor q
  | own h1 h2 h3 h4 h5 =>
    refine .own (S.h _ _ (.inr ⟨_, rfl, rfl⟩) h1 h4.nt) ((S.n _ _ (.inr ⟨_, rfl, rfl⟩) h1 h4.ow).trans h2) h3 (h4.mono S.g) fun i u hi hz => ?_
    obtain ⟨q, hq, g1, g2, g3, g4, g5⟩ := R'.own i u hi
    rw [hz] at g1; cases g1
    exact g4 (.inr ⟨_, rfl, rfl⟩)
theorem wah_nil : WAh K tNil wNil := fun B G H σ ρ Q QV R q k => k [] G H ρ [] .refl R .nil q
theorem wah_cons (he : WE K te we) (hr : WAh K t wr) : WAh K (tCons te t) (wConsH we wr) := fun B G H σ ρ Q QV R q k =>
  he B G H σ ρ _ _ R q fun v G1 H1 ρ1 r S1 R1 rr q1 => by
    refine hr _ G1 H1 σ ρ1 _ _ (R1.keep rr) q1 fun vs G2 H2 ρ2 rs S2 R2 rrs q2 => ?_
    exact k (v :: vs) G2 H2 ρ2 (r :: rs) (S1.trans (S2.weak fun _ z => .inl z)) (R2.weak R.z.b fun _ z => .inl z) (.cons (rr.kept S2 R2) rrs) q2
structure DAh (X : CxT) (es : List Expr) (ta : TA) (w : Wa) : Prop where
  pa : PA X es ta
  wa : WAh X.K ta w
theorem dah_nil : DAh X [] tNil wNil := ⟨pa_nil, wah_nil⟩
theorem dah_cons (he : DE X e te we) (hr : DAh X es t wr) (hs : starEach (e :: es) X.env = (false, eval e X.env) :: starEach es X.env := by rfl) : DAh X (e :: es) (tCons te t) (wConsH we wr) := ⟨pa_cons he.pe hr.pa hs, wah_cons he.we hr.wa⟩
/-- the slots take the results, one after another; none is a slot's thing -/
def Rz.sd : Rz → Option SD
  | .dat d => some (.dat d)
  | .own o => some (.own o)
  | .bor _ => none
def puts : List Nat → List Rz → Sl → Option Sl
  | [], [], ρ => some ρ
  | i :: is, r :: rs, ρ => match r.sd with
    | some s => puts is rs (ρ.set i s)
    | none => none
  | _, _, _ => none
def setAll : List Nat → List V → L2.St → L2.St
  | i :: is, v :: vs, σ => setAll is vs (σ.set i (some v))
  | _, _, σ => σ
theorem RRh.stored {G H : Hp} {σ : L2.St} {ρ : Sl} {i : Nat} {v : V} {r : Rz} {s : SD} (hs : r.sd = some s) : ∀ {vs : List V} {rs : List Rz} {B : Addr → Prop}, (∀ a, adr v r a → B a) → RRh K G H σ ρ B vs rs → (∀ r' ∈ rs, r'.sd ≠ none) → RRh K G H (σ.set i (some v)) (ρ.set i s) B vs rs
  | _, _, _, _, .nil, _ => .nil
  | v' :: vs, r' :: rs, B, hB, .cons h t, hf => by
    refine .cons ?_ (RRh.stored hs (fun a ha => .inl (hB a ha)) t fun r'' hr => hf r'' (List.mem_cons_of_mem _ hr))
    cases h with
    | dat q => exact .dat q
    | bor q => exact absurd rfl (hf _ List.mem_cons_self)
    | own h1 h2 h3 h4 h5 =>
      refine .own h1 h2 h3 h4 fun j u hj hz => ?_
      by_cases z : j = i
      · subst z
        by_cases hl : j < ρ.length
        · rw [List.getElem?_set_self hl] at hj
          cases hj
          by_cases hl2 : j < σ.length
          · rw [List.getElem?_set_self hl2] at hz
            cases hz
            cases r with
            | own o => exact h3 (hB _ ⟨o, rfl, rfl⟩)
            | dat d => cases hs
            | bor k => cases hs
          · rw [List.getElem?_eq_none (by rw [List.length_set]; omega)] at hz; cases hz
        · rw [List.getElem?_eq_none (by rw [List.length_set]; omega)] at hj; cases hj
      · rw [List.getElem?_set_ne (Ne.symm z)] at hj hz
        exact h5 j u hj hz
theorem RRh.weak {G H : Hp} {σ : L2.St} {ρ : Sl} : ∀ {vs : List V} {rs : List Rz} {B B' : Addr → Prop}, RRh K G H σ ρ B' vs rs → (∀ a, B a → B' a) → RRh K G H σ ρ B vs rs
  | _, _, _, _, .nil, _ => .nil
  | _, _, _, _, .cons h t, w => by
    refine .cons ?_ (RRh.weak t fun a z => z.elim (fun z => .inl (w a z)) .inr)
    cases h with
    | dat q => exact .dat q
    | bor q => exact .bor q
    | own h1 h2 h3 h4 h5 => exact .own h1 h2 (fun z => h3 (w _ z)) h4 h5
theorem rep_puts {G H : Hp} : ∀ {is : List Nat} {rs : List Rz} {vs : List V} {B : Addr → Prop} {σ : L2.St} {ρ ρ' : Sl}, Rep K B G H σ ρ → RRh K G H σ ρ B vs rs → puts is rs ρ = some ρ' → Rep K B G H (setAll is vs σ) ρ'
  | [], [], [], _, _, _, _, R, .nil, e => by cases e; exact R
  | i :: is, r :: rs, v :: vs, B, σ, ρ, ρ', R, .cons h t, e => by
    unfold puts at e
    cases es : r.sd with
    | none => simp only [es] at e; cases e
    | some s =>
      simp only [es] at e
      have hf : ∀ (is : List Nat) (rs : List Rz) (ρ : Sl), puts is rs ρ = some ρ' → ∀ r' ∈ rs, r'.sd ≠ none := by
        intro is rs
        induction rs generalizing is with
        | nil => intro ρ _ r' hr; cases hr
        | cons r0 rs ih =>
          intro ρ h r' hr
          cases is with
          | nil => cases h
          | cons i0 is =>
            unfold puts at h
            cases e0 : r0.sd with
            | none => simp only [e0] at h; cases h
            | some s0 =>
              simp only [e0] at h
              rcases List.mem_cons.mp hr with rfl | hr
              · rw [e0]; intro z; cases z
              · exact ih is _ h r' hr
      have hf' := hf is rs _ e
      have R2 : Rep K B G H (σ.set i (some v)) (ρ.set i s) := by
        cases h with
        | dat q => cases es; exact R.store (fun d z => by cases z; exact q) (fun o z => by cases z)
        | own h1 h2 h3 h4 h5 => cases es; exact R.store (fun d z => by cases z) (fun o z => by cases z; exact ⟨_, _, rfl, h1, h2, h3, h4, fun j u _ hj => h5 j u hj⟩)
        | bor q => cases es
      have t2 := RRh.stored (i := i) es (fun a ha => .inr ha) t hf'
      show Rep K B G H (setAll is vs (σ.set i (some v))) ρ'
      exact rep_puts (is := is) (rs := rs) R2 (t2.weak fun a z => Or.inl z) e
/-- a, b = x, y; a, b, c = x, y, z -/
def wPuts (is : List Nat) (wa : Wa) : Ws := fun O ρ => wa ρ fun rs ρ1 => ok (puts is rs ρ1) O.nx
theorem puts_len : ∀ {is : List Nat} {rs : List Rz} {ρ ρ' : Sl}, puts is rs ρ = some ρ' → rs.length = is.length := by
  intro is
  induction is with
  | nil => intro rs ρ ρ' h; cases rs with | nil => rfl | cons => cases h
  | cons i is ih =>
    intro rs ρ ρ' h
    cases rs with
    | nil => cases h
    | cons r rs =>
      unfold puts at h
      cases e : r.sd with
      | none => simp only [e] at h; cases h
      | some s => simp only [e] at h; rw [List.length_cons, List.length_cons, ih h]
theorem RRh.length {G H : Hp} {σ : L2.St} {ρ : Sl} : ∀ {vs : List V} {rs : List Rz} {B : Addr → Prop}, RRh K G H σ ρ B vs rs → vs.length = rs.length
  | _, _, _, .nil => rfl
  | _, _, _, .cons _ t => congrArg (· + 1) t.length
theorem Pn.setAll {S0 : L2.St} : ∀ {is : List Nat} {vs : List V} {σ : L2.St}, Pn T S0 σ → is.all (fun i => !T i) = true → Pn T S0 (setAll is vs σ)
  | [], _, _, P, _ => P
  | _ :: _, [], _, P, _ => P
  | i :: is, v :: vs, σ, P, h => by
    rw [List.all_cons, Bool.and_eq_true] at h
    exact Pn.setAll (is := is) (vs := vs) (P.set (by simpa using h.1)) h.2
theorem ws_puts2 {i j : Nat} {ta : TA} {wa : Wa} (hi : [i, j].all (fun i => !T i) = true) (h : WAh K ta wa) : WSs K T (tPar i j ta) (wPuts [i, j] wa) := fun B G H σ S0 ρ O D R P q kn kr kb kc =>
  h B G H σ ρ _ _ R q fun vs G1 H1 ρ1 rs S1 R1 rr q1 => by
    obtain ⟨ρ2, e, q1⟩ := ok_some q1
    have R2 := rep_puts R1 rr e
    have hl := rr.length.trans (puts_len e)
    match vs, hl, R2 with
    | [v, w], _, R2 => exact ⟨v, w, rfl, kn G1 H1 _ ρ2 S1 R2 (P.setAll (vs := [v, w]) hi) q1⟩
theorem ws_puts3 {i j l : Nat} {ta : TA} {wa : Wa} (hi : [i, j, l].all (fun i => !T i) = true) (h : WAh K ta wa) : WSs K T (tPar3 i j l ta) (wPuts [i, j, l] wa) := fun B G H σ S0 ρ O D R P q kn kr kb kc =>
  h B G H σ ρ _ _ R q fun vs G1 H1 ρ1 rs S1 R1 rr q1 => by
    obtain ⟨ρ2, e, q1⟩ := ok_some q1
    have R2 := rep_puts R1 rr e
    have hl := rr.length.trans (puts_len e)
    match vs, hl, R2 with
    | [v, w, u], _, R2 => exact ⟨v, w, u, rfl, kn G1 H1 _ ρ2 S1 R2 (P.setAll (vs := [v, w, u]) hi) q1⟩
theorem ds_puts2 {i j : Nat} {x y : Str} {a b : Expr} {ta : TA} {wa : Wa} {px py pt : Pos} {kt k2 pt2} (hT : [i, j].all (fun i => !T i) = true) (hc : X.calm = true) (hN : X.N.Nodup) (hi : X.N[i]? = some x) (hj : X.N[j]? = some y) (hij : i ≠ j)
    (hx : X.env.scope.names.lookup x = some .local) (hy : X.env.scope.names.lookup y = some .local) (ha : DAh X [a, b] ta wa)
    (hw : swappedStores [.Tuple [.Name x px, .Name y py] kt pt] (.Tuple [a, b] k2 pt2) X.env = pure (some [x, y]))
    (hs : swapsWithSole [.Tuple [.Name x px, .Name y py] kt pt] (.Tuple [a, b] k2 pt2) pos.line X.env = pure false := by rfl) :
    DS X T (.Assign [.Tuple [.Name x px, .Name y py] kt pt] (.Tuple [a, b] k2 pt2) pos) (tPar i j ta) (wPuts [i, j] wa) := ⟨ps_par hc hN hi hj hij hx hy ha.pa hw hs, ws_puts2 hT ha.wa⟩
theorem ds_puts3 {i j l : Nat} {x y z : Str} {a b c : Expr} {ta : TA} {wa : Wa} {px py pz pt : Pos} {kt k2 pt2} (hT : [i, j, l].all (fun i => !T i) = true) (hc : X.calm = true) (hN : X.N.Nodup) (hi : X.N[i]? = some x) (hj : X.N[j]? = some y) (hl : X.N[l]? = some z) (hij : i ≠ j) (hil : i ≠ l) (hjl : j ≠ l)
    (hx : X.env.scope.names.lookup x = some .local) (hy : X.env.scope.names.lookup y = some .local) (hz : X.env.scope.names.lookup z = some .local) (ha : DAh X [a, b, c] ta wa)
    (hw : swappedStores [.Tuple [.Name x px, .Name y py, .Name z pz] kt pt] (.Tuple [a, b, c] k2 pt2) X.env = pure (some [x, y, z]))
    (hs : swapsWithSole [.Tuple [.Name x px, .Name y py, .Name z pz] kt pt] (.Tuple [a, b, c] k2 pt2) pos.line X.env = pure false := by rfl) :
    DS X T (.Assign [.Tuple [.Name x px, .Name y py, .Name z pz] kt pt] (.Tuple [a, b, c] k2 pt2) pos) (tPar3 i j l ta) (wPuts [i, j, l] wa) := ⟨ps_par3 hc hN hi hj hl hij hil hjl hx hy hz ha.pa hw hs, ws_puts3 hT ha.wa⟩
end
end DL

set_option Elab.async false
set_option linter.all false
set_option maxRecDepth 100000
set_option maxHeartbeats 2000000
namespace DL
open PySem L2
/-- what an iterator yields, in every later state -/
def ItOk (K : KT) (G0 : Hp) (J : It) (ds : List PD) : Prop := ∀ (B : Addr → Prop) (σ : L2.St) (ρ : Sl) (G H : Hp), Ex G0 G → Rep K B G H σ ρ → (∀ i, ds.length ≤ i → J.stop i H) ∧
  ∀ i d, ds[i]? = some d → J.go i H ∧ ∀ x H', J.yld i H x H' → ∃ G', Stp B G H G' H' ∧ Rep K B G' H' σ ρ ∧ Rp K G' x d
abbrev Wi := Sl → (List PD → Sl → Prop) → Prop
def WIi (K : KT) (wi : TI) (w : Wi) : Prop := ∀ (B : Addr → Prop) (G H : Hp) (σ : L2.St) (ρ : Sl) (Q : List PD → Sl → Prop) (QJ : It → Hp → Prop), Rep K B G H σ ρ → w ρ Q →
  (∀ J G' H' ρ' ds, Stp B G H G' H' → Rep K B G' H' σ ρ' → ItOk K G' J ds → Q ds ρ' → QJ J H') → wi σ H QJ
structure DI (X : CxT) (tg it : Expr) (wi : TI) (w : Wi) : Prop where
  pi : PI X tg it wi
  wi : WIi X.K wi w
section
variable {X : CxT} {K : KT} {T : Nat → Bool} {e tg : Expr} {es : List Expr} {te : TE} {t : TA} {we : We} {wr : Wa} {pos : Pos}
/-! ### over a list or a tuple -/
def iSeq (K : PySem.W.Frag) (tl : TE) : TI := fun σ H R => tl σ H fun x H1 => ∃ a, x = .ref a ∧ (((∃ xs, SqL K H1 a xs) ∧ R (Itl K a) H1) ∨ ((∃ xs, SqT K H1 a xs) ∧ R (Itt K a) H1))
theorem pi_seq {l : Expr} {tl : TE} (hl : PE X l tl) : PI X tg l (iSeq X.K tl) := by
  refine ⟨fun pins s σ H R I h => ?_⟩
  refine thn (hl.run pins s σ H _ I h) fun v s1 ⟨x, H1, I1, r1, q1⟩ => ?_
  obtain ⟨a, e, q⟩ := q1
  subst e
  cases r1
  rcases q with ⟨⟨xs, hq⟩, q⟩ | ⟨⟨xs, hq⟩, q⟩
  · obtain ⟨its, rv, p, hz⟩ := I1.list hq
    refine wpAny_pyIter_list p.isList ?_
    refine ⟨s1.heap.objs.size, [s1.heap.objs.size], _, _, H1, rfl, I1.kept (t' := s1.toks) fun b o e => Heap.get?_push_of_some _ e, turn_list a _, ⟨_, Heap.get?_push_size _ rfl, rfl, rfl⟩, fun b hb => ?_, q⟩
    have e : b = s1.heap.objs.size := by simpa using hb
    subst e
    exact I1.fpOk (Nat.le_refl _) (I1.hok.fresh (Nat.le_refl _))
  · obtain ⟨its, rv, p, hz⟩ := I1.tuple hq
    refine wpAny_pyIter_tuple (show s1.heap.IsTuple a its.toArray from p) ?_
    refine ⟨s1.heap.objs.size, [s1.heap.objs.size], _, _, H1, rfl, I1.kept (t' := s1.toks) fun b o e => Heap.get?_push_of_some _ e, turn_tuple a _, ⟨_, Heap.get?_push_size _ rfl, rfl, rfl⟩, fun b hb => ?_, q⟩
    have e : b = s1.heap.objs.size := by simpa using hb
    subst e
    exact I1.fpOk (Nat.le_refl _) (I1.hok.fresh (Nat.le_refl _))
def items (d : PD) : Option (List PD) := match d with
  | .lst xs => some xs
  | .tup xs => some xs
  | .scr ns => some (ns.map .int)
  | _ => none
def wSeqI (we : We) : Wi := fun ρ Q => we ρ fun r ρ1 => warm r ρ1 ∧ frz [r.cool] ρ1 fun ds ρ2 => match ds with
  | [d] => ok (items d) fun xs => Q xs ρ2
  | _ => False
theorem it_list {G0 : Hp} {a : Addr} {vs : List V} {ds : List PD} (hG : ∀ G H, Ex G0 G → Ex G H → SqL K H a vs) (r : RpAll K G0 vs ds) : ItOk K G0 (Itl K a) ds := fun B σ ρ G H e R => by
  have hq := hG G H e R.gh
  refine ⟨fun i hi => ⟨vs, hq, by rw [r.length]; exact hi⟩, fun i d hd => ?_⟩
  obtain ⟨v, hv, rv⟩ := r.get hd
  refine ⟨⟨vs, v, hq, hv⟩, fun x H' ⟨eH, hx⟩ => ?_⟩
  subst eH
  have := hx vs hq
  rw [hv] at this; cases this
  exact ⟨G, .refl, R, rv.mono e⟩
theorem it_tup {G0 : Hp} {a : Addr} {vs : List V} {ds : List PD} (hG : ∀ G H, Ex G0 G → Ex G H → SqT K H a vs) (r : RpAll K G0 vs ds) : ItOk K G0 (Itt K a) ds := fun B σ ρ G H e R => by
  have hq := hG G H e R.gh
  refine ⟨fun i hi => ⟨vs, hq, by rw [r.length]; exact hi⟩, fun i d hd => ?_⟩
  obtain ⟨v, hv, rv⟩ := r.get hd
  refine ⟨⟨vs, v, hq, hv⟩, fun x H' ⟨eH, hx⟩ => ?_⟩
  subst eH
  have := hx vs hq
  rw [hv] at this; cases this
  exact ⟨G, .refl, R, rv.mono e⟩
theorem wi_seq (h : WE K te we) : WIi K (iSeq K te) (wSeqI we) := fun B G H σ ρ Q QJ R q k =>
  h B G H σ ρ _ _ R q fun v G1 H1 ρ1 r S1 R1 rr ⟨c1, q1⟩ => by
    obtain ⟨G1', S1', R1', rr1', cc, ec⟩ := rr.cool R1 c1
    obtain ⟨⟨ds, ρ2⟩, e, q1⟩ := ok_some q1
    obtain ⟨G2, S2, R2, ra⟩ := frz_all R1' (.cons rr1' cc .nil) e
    match ds, ra, q1 with
    | [d], ra, q1 =>
      obtain ⟨w, ew, rw'⟩ := ra.one
      cases ew
      obtain ⟨xs, ex, q1⟩ := ok_some q1
      have S := (S1.trans S1').trans S2
      cases rw' with
      | lst hg r => cases ex; exact ⟨_, rfl, .inl ⟨⟨_, SqL.of (R2.gh _ _ hg nt_lst)⟩, k _ G2 H1 ρ2 _ S R2 (it_list (fun G' H' e e' => SqL.of (e' _ _ (e _ _ hg nt_lst) nt_lst)) r) q1⟩⟩
      | tup hg r => cases ex; exact ⟨_, rfl, .inr ⟨⟨_, ex_t R2.gh hg⟩, k _ G2 H1 ρ2 _ S R2 (it_tup (fun G' H' e e' => ex_t e' (ex_t e hg)) r) q1⟩⟩
      | scr hg => cases ex; exact ⟨_, rfl, .inl ⟨⟨_, ex_l R2.gh hg⟩, k _ G2 H1 ρ2 _ S R2 (it_list (fun G' H' e e' => ex_l e' (ex_l e hg)) (rp_ints _)) q1⟩⟩
      | _ => cases ex
theorem di_seq {l : Expr} (h : DE X l te we) : DI X tg l (iSeq X.K te) (wSeqI we) := ⟨pi_seq h.pe, wi_seq h.we⟩
/-! ### over a range -/
def rgP (lo : Int) (n : Nat) : List PD := (List.range n).map fun i => PD.int (lo + (i : Nat))
theorem it_range {G0 : Hp} {lo : Int} {n : Nat} : ItOk K G0 (Itr lo n) (rgP lo n) := fun B σ ρ G H e R => by
  have hl : (rgP lo n).length = n := by unfold rgP; rw [List.length_map, List.length_range]
  refine ⟨fun i hi => by rw [hl] at hi; exact hi, fun i d hd => ?_⟩
  unfold rgP at hd
  rw [List.getElem?_map] at hd
  have hi : i < n := by
    refine Classical.byContradiction fun z => ?_
    rw [List.getElem?_eq_none (by rw [List.length_range]; omega)] at hd
    cases hd
  rw [List.getElem?_range hi] at hd
  cases hd
  exact ⟨hi, fun x H' ⟨e1, e2⟩ => by subst e1; subst e2; exact ⟨G, .refl, R, .int _⟩⟩
def wRng1 (wa : Wa) : Wi := fun ρ Q => wa ρ fun rs ρ1 => match rs with
  | [.dat (.int j)] => (-(2 ^ 62) ≤ j ∧ j < 2 ^ 62) ∧ Q (rgP 0 j.toNat) ρ1
  | _ => False
theorem RRs.int1 {B : Addr → Prop} {G H : Hp} {σ : L2.St} {ρ : Sl} {vs : List V} {j : Int} (h : RRs K B G H σ ρ vs [.dat (.int j)]) : vs = [.int j] := by
  cases h with | cons h c t => cases t; cases h with | dat q => cases q; rfl
theorem RRs.int2 {B : Addr → Prop} {G H : Hp} {σ : L2.St} {ρ : Sl} {vs : List V} {i j : Int} (h : RRs K B G H σ ρ vs [.dat (.int i), .dat (.int j)]) : vs = [.int i, .int j] := by
  cases h with
  | cons h c t => cases h with | dat q => cases q; rw [t.int1]
theorem wi_rng1 (h : WAa K t wr) : WIi K (iRng1 t) (wRng1 wr) := fun B G H σ ρ Q QJ R q k =>
  h B G H σ ρ _ _ R q fun vs G1 H1 ρ1 rs S1 R1 rr q1 => by
    match rs, rr, q1 with
    | [.dat (.int j)], rr, ⟨⟨b1, b2⟩, q1⟩ => exact ⟨j, rr.int1, b1, b2, k _ G1 H1 ρ1 _ S1 R1 it_range q1⟩
def wRng2 (wa : Wa) : Wi := fun ρ Q => wa ρ fun rs ρ1 => match rs with
  | [.dat (.int i), .dat (.int j)] => (-(2 ^ 62) ≤ i ∧ i < 2 ^ 62 ∧ -(2 ^ 62) ≤ j ∧ j < 2 ^ 62) ∧ Q (rgP i (j - i).toNat) ρ1
  | _ => False
theorem wi_rng2 (h : WAa K t wr) : WIi K (iRng2 t) (wRng2 wr) := fun B G H σ ρ Q QJ R q k =>
  h B G H σ ρ _ _ R q fun vs G1 H1 ρ1 rs S1 R1 rr q1 => by
    match rs, rr, q1 with
    | [.dat (.int i), .dat (.int j)], rr, ⟨b, q1⟩ => exact ⟨i, j, rr.int2, b, k _ G1 H1 ρ1 _ S1 R1 it_range q1⟩
variable {a b : Expr} {p : Pos}
theorem di_rng1 (hg : Gl X "range") (hm : X.mg "range" = none) (ha : DA X [a] t wr) (hs : starEach [a] X.env = [(false, eval a X.env)] := by rfl) : DI X tg (.Call (.Name "range" p) [a] [] pos) (iRng1 t) (wRng1 wr) := ⟨pi_range1 hg hm ha.pa hs, wi_rng1 ha.wa⟩
theorem di_rng2 (hg : Gl X "range") (hm : X.mg "range" = none) (ha : DA X [a, b] t wr) (hs : starEach [a, b] X.env = [(false, eval a X.env), (false, eval b X.env)] := by rfl) (hs2 : starEach [b] X.env = [(false, eval b X.env)] := by rfl) : DI X tg (.Call (.Name "range" p) [a, b] [] pos) (iRng2 t) (wRng2 wr) := ⟨pi_range2 hg hm ha.pa hs hs2, wi_rng2 ha.wa⟩
/-! ### for -/
def forL (wg : Wg) (wb : Ws) : List PD → On → Sl → Prop
  | [], O, ρ => O.nx ρ
  | d :: ds, O, ρ => wg d ρ fun ρ' => wb { nx := forL wg wb ds O, rt := O.rt, bk := O.nx, ct := forL wg wb ds O } ρ'
def wFor (wi : Wi) (wg : Wg) (wb : Ws) : Ws := fun O ρ => wi ρ fun ds ρ1 => forL wg wb ds O ρ1
theorem ws_for {wi : TI} {wI : Wi} {g : TG} {wg : Wg} {tb : TS} {wb : Ws} (hi : WIi K wi wI) (hg : WGg K T g wg) (hb : WSs K T tb wb) : WSs K T (tFor wi g tb) (wFor wI wg wb) := fun B G H σ S0 ρ O D R P q kn kr kb kc =>
  hi B G H σ ρ _ _ R q fun J G1 H1 ρ1 ds S1 R1 it q1 => by
    refine ⟨fun i m σ' H' => m = ds.length - i ∧ i ≤ ds.length ∧ ∃ G' ρ', Stp B G H G' H' ∧ Ex G1 G' ∧ Rep K B G' H' σ' ρ' ∧ Pn T S0 σ' ∧ forL wg wb (ds.drop i) O ρ', ⟨_, rfl, Nat.zero_le _, G1, ρ1, S1, Ex.refl _, R1, P, q1⟩, ?_⟩
    rintro i m σ' H' ⟨rfl, hi, G', ρ', S', e', R', P', q'⟩
    obtain ⟨hstop, hgo⟩ := it B σ' ρ' G' H' e' R'
    by_cases hlt : i < ds.length
    · have hd : ds[i]? = some ds[i] := List.getElem?_eq_getElem hlt
      obtain ⟨go, yl⟩ := hgo i _ hd
      refine .inr ⟨go, fun σ2 H2 => ∃ G2 ρ2, Stp B G H G2 H2 ∧ Ex G1 G2 ∧ Rep K B G2 H2 σ2 ρ2 ∧ Pn T S0 σ2 ∧ forL wg wb (ds.drop (i + 1)) O ρ2, fun σ2 H2 h2 => ⟨_, by omega, rfl, hlt, h2⟩, fun x H2 hy => ?_⟩
      obtain ⟨G2, S2, R2, rx⟩ := yl x H2 hy
      rw [List.drop_eq_getElem_cons hlt] at q'
      have SS := S'.trans S2
      have ee := e'.trans S2.g
      exact hg B G2 H2 σ' S0 ρ' x _ _ _ R2 P' rx q' fun σ3 ρ3 R3 P3 q3 =>
        hb B G2 H2 σ3 S0 ρ3 _ _ R3 P3 q3 (fun G4 H4 σ4 ρ4 S4 R4 P4 q4 => ⟨G4, ρ4, SS.trans S4, ee.trans S4.g, R4, P4, q4⟩) (fun G4 H4 σ4 ρ4 v r S4 => kr G4 H4 σ4 ρ4 v r (SS.trans S4)) (fun G4 H4 σ4 ρ4 S4 => kn G4 H4 σ4 ρ4 (SS.trans S4)) (fun G4 H4 σ4 ρ4 S4 R4 P4 q4 => ⟨G4, ρ4, SS.trans S4, ee.trans S4.g, R4, P4, q4⟩)
    · have e : i = ds.length := by omega
      subst e
      rw [List.drop_length] at q'
      exact .inl ⟨hstop _ (Nat.le_refl _), kn G' H' σ' ρ' S' R' P' q'⟩
theorem ds_for {iter : Expr} {body : List Stmt} {wi : TI} {wI : Wi} {g : TG} {wg : Wg} {tb : TS} {wb : Ws} (hp : PassesOwn (model X.prog X.w) X.A X.env X.xe) (hc : X.calm = true) (hi : DI X tg iter wi wI) (hg : DG X T tg g wg) (hb : DSs X T body tb wb)
    (hs : ∀ x, foldedSetIterable iter X.env x = pure x := by intro _; rfl) : DS X T (.For tg iter body [] pos) (tFor wi g tb) (wFor wI wg wb) := ⟨ps_for hp hc hi.pi hg.pg hb.pss hs, ws_for hi.wi hg.wg hb.ws⟩
/-! ### while: by a number of turns -/
def whileN (wc : Wt) (wb : Ws) : Nat → On → Sl → Prop
  | 0, _, _ => False
  | n + 1, O, ρ => wc ρ fun b ρ1 => match b with
    | true => wb { nx := whileN wc wb n O, rt := O.rt, bk := O.nx, ct := whileN wc wb n O } ρ1
    | false => O.nx ρ1
def wWhile (wc : Wt) (wb : Ws) : Ws := fun O ρ => ∃ n, whileN wc wb n O ρ
theorem ws_while {tc : TT} {wc : Wt} {tb : TS} {wb : Ws} (hc : WTt K tc wc) (hb : WSs K T tb wb) : WSs K T (tWhile tc tb) (wWhile wc wb) := fun B G H σ S0 ρ O D R P q kn kr kb kc => by
  obtain ⟨n, q⟩ := q
  refine ⟨fun m σ' H' => ∃ G' ρ', Stp B G H G' H' ∧ Rep K B G' H' σ' ρ' ∧ Pn T S0 σ' ∧ whileN wc wb m O ρ', ⟨n, G, ρ, .refl, R, P, q⟩, ?_⟩
  rintro m σ' H' ⟨G', ρ', S', R', P', q'⟩
  cases m with
  | zero => exact q'.elim
  | succ m =>
    refine hc B G' H' σ' ρ' _ (fun b H1 => if b = true then _ else _) R' q' fun b G1 H1 ρ1 S1 R1 q1 => ?_
    have SS := S'.trans S1
    cases b with
    | true =>
      rw [if_pos rfl]
      exact ⟨fun σ2 H2 => ∃ G2 ρ2, Stp B G H G2 H2 ∧ Rep K B G2 H2 σ2 ρ2 ∧ Pn T S0 σ2 ∧ whileN wc wb m O ρ2, fun σ2 H2 h2 => ⟨m, Nat.lt_succ_self m, h2⟩,
        hb B G1 H1 σ' S0 ρ1 _ _ R1 P' q1 (fun G4 H4 σ4 ρ4 S4 R4 P4 q4 => ⟨G4, ρ4, SS.trans S4, R4, P4, q4⟩) (fun G4 H4 σ4 ρ4 v r S4 => kr G4 H4 σ4 ρ4 v r (SS.trans S4)) (fun G4 H4 σ4 ρ4 S4 => kn G4 H4 σ4 ρ4 (SS.trans S4)) (fun G4 H4 σ4 ρ4 S4 R4 P4 q4 => ⟨G4, ρ4, SS.trans S4, R4, P4, q4⟩)⟩
    | false =>
      rw [if_neg Bool.false_ne_true]
      exact kn G1 H1 σ' ρ1 SS R1 P' q1
theorem ds_while {c : Expr} {body : List Stmt} {tc : TT} {wc : Wt} {tb : TS} {wb : Ws} (hp : PassesOwn (model X.prog X.w) X.A X.env X.xe) (hc : DT X c tc wc) (hb : DSs X T body tb wb) : DS X T (.While c body [] pos) (tWhile tc tb) (wWhile wc wb) := ⟨ps_while hp hc.pt hb.pss, ws_while hc.wt hb.ws⟩
end
end DL

set_option Elab.async false
set_option linter.all false
set_option maxRecDepth 100000
set_option maxHeartbeats 2000000
namespace DL
open PySem L2
section
variable {X : CxT} {K : KT} {e tg : Expr} {es : List Expr} {te : TE} {we : We} {pos : Pos}
/-! ### list comprehensions -/
def wipeS (ρ : Sl) : List Nat → Sl
  | [] => ρ
  | v :: vs => (wipeS ρ vs).set v .emp
theorem Rep.forget {B : Addr → Prop} {G H : Hp} {σ : L2.St} {ρ : Sl} (R : Rep K B G H σ ρ) (i : Nat) : Rep K B G H (σ.set i none) (ρ.set i .emp) := by
  have get : ∀ (j : Nat) (s : SD), (ρ.set i .emp)[j]? = some s → s ≠ .emp → ρ[j]? = some s ∧ (σ.set i none)[j]? = σ[j]? := fun j s h hs => by
    by_cases z : j = i
    · subst z
      by_cases hl : j < ρ.length
      · rw [List.getElem?_set_self hl] at h; cases h; exact absurd rfl hs
      · rw [List.getElem?_eq_none (by rw [List.length_set]; omega)] at h; cases h
    · rw [List.getElem?_set_ne (Ne.symm z)] at h; exact ⟨h, List.getElem?_set_ne (Ne.symm z)⟩
  refine ⟨R.gh, R.tb, R.z, R.bh, by rw [List.length_set, List.length_set]; exact R.len, fun j d h => ?_, fun j o h => ?_, fun j k o u p x y z w => ?_⟩
  · obtain ⟨a, b⟩ := get j _ h (by intro z; cases z)
    rw [b]; exact R.dat j d a
  · obtain ⟨a, b⟩ := get j _ h (by intro z; cases z)
    rw [b]; exact R.own j o a
  · obtain ⟨a, b⟩ := get j _ x (by intro z; cases z)
    obtain ⟨c, d⟩ := get k _ y (by intro z; cases z)
    rw [b] at z; rw [d] at w
    exact R.sep j k o u p a c z w
theorem Rep.wipe {B : Addr → Prop} {G H : Hp} {σ : L2.St} {ρ : Sl} (R : Rep K B G H σ ρ) : ∀ vs : List Nat, Rep K B G H (L2.wipe σ vs) (wipeS ρ vs)
  | [] => R
  | v :: vs => (Rep.wipe R vs).forget v
/-- the slots of the comprehension's own names get back what they held -/
def restore (ρ0 : Sl) : List Nat → Sl → Sl
  | [], ρ => ρ
  | v :: vs, ρ => restore ρ0 vs (ρ.set v (ρ0.getD v .emp))
def noOwn (ρ0 : Sl) (vs : List Nat) : Bool := vs.all fun v => match ρ0[v]? with
  | some (.own _) => false
  | _ => true
theorem Rep.restore {B B0 : Addr → Prop} {G G0 H0 H : Hp} {σ : L2.St} {ρ0 : Sl} (R0 : Rep K B0 G0 H0 σ ρ0) (e : Ex G0 G) : ∀ {vs : List Nat} {ρ : Sl}, vs.Nodup → noOwn ρ0 vs = true → Rep K B G H (L2.wipe σ vs) ρ → Rep K B G H σ (DL.restore ρ0 vs ρ)
  | [], ρ, _, _, R => R
  | v :: vs, ρ, nd, no, R => by
    have nd' := List.nodup_cons.mp nd
    have no' := Bool.and_eq_true_iff.mp (show ((match ρ0[v]? with | some (.own _) => false | _ => true) && noOwn ρ0 vs) = true from no)
    show Rep K B G H σ (DL.restore ρ0 vs (ρ.set v (ρ0.getD v .emp)))
    refine Rep.restore (vs := vs) R0 e nd'.2 no'.2 ?_
    have R : Rep K B G H ((L2.wipe σ vs).set v none) ρ := R
    have hv : ∀ x, σ[v]? = some (some x) → (L2.wipe σ vs)[v]? = some (some x) := fun x hx => by
      have wk : ∀ (ws : List Nat), v ∉ ws → (L2.wipe σ ws)[v]? = σ[v]? := by
        intro ws
        induction ws with
        | nil => intro _; rfl
        | cons w ws ih =>
          intro hm
          rw [List.mem_cons, not_or] at hm
          show ((L2.wipe σ ws).set w none)[v]? = _
          rw [List.getElem?_set_ne (Ne.symm hm.1)]
          exact ih hm.2
      rw [wk vs nd'.1, hx]
    have other : ∀ j, j ≠ v → ((L2.wipe σ vs).set v none)[j]? = (L2.wipe σ vs)[j]? := fun j hj => List.getElem?_set_ne (Ne.symm hj)
    have lenW : (L2.wipe σ vs).length = ρ.length := by rw [← R.len, List.length_set]
    -- what the slot v holds again
    cases hs : ρ0.getD v SD.emp with
    | own o =>
      exfalso
      rw [List.getD_eq_getElem?_getD] at hs
      cases h0 : ρ0[v]? with
      | none => rw [h0] at hs; cases hs
      | some s => rw [h0] at hs; have hs : s = SD.own o := hs; subst hs; have := no'.1; rw [h0] at this; cases this
    | emp =>
      have get : ∀ (j : Nat) (s : SD), (ρ.set v SD.emp)[j]? = some s → s ≠ .emp → j ≠ v ∧ ρ[j]? = some s := fun j s h hne => by
        by_cases z : j = v
        · subst z
          by_cases hl : j < ρ.length
          · rw [List.getElem?_set_self hl] at h; cases h; exact absurd rfl hne
          · rw [List.getElem?_eq_none (by rw [List.length_set]; omega)] at h; cases h
        · rw [List.getElem?_set_ne (Ne.symm z)] at h; exact ⟨z, h⟩
      refine ⟨R.gh, R.tb, R.z, R.bh, by rw [List.length_set]; exact lenW, fun j d h => ?_, fun j o h => ?_, fun j k o u p x y z w => ?_⟩
      · obtain ⟨a, b⟩ := get j _ h (by intro z; cases z)
        rw [← other j a]; exact R.dat j d b
      · obtain ⟨a, b⟩ := get j _ h (by intro z; cases z)
        rw [← other j a]; exact R.own j o b
      · obtain ⟨a, b⟩ := get j _ x (by intro z; cases z)
        obtain ⟨c, d⟩ := get k _ y (by intro z; cases z)
        rw [← other j a] at z; rw [← other k c] at w
        exact R.sep j k o u p b d z w
    | dat d =>
      obtain ⟨x, hx, rx⟩ : ∃ x, σ[v]? = some (some x) ∧ Rp K G0 x d := by
        rw [List.getD_eq_getElem?_getD] at hs
        cases h0 : ρ0[v]? with
        | none => rw [h0] at hs; cases hs
        | some s => rw [h0] at hs; have hs : s = SD.dat d := hs; subst hs; exact R0.dat v d h0
      have st := (R.store (i := v) (v := x) (s := .dat d) (fun d' z => by cases z; exact rx.mono e) (fun o z => by cases z))
      have : (((L2.wipe σ vs).set v none).set v (some x)) = L2.wipe σ vs := by
        apply List.ext_getElem?
        intro m
        by_cases hm : m = v
        · subst hm
          have := hv x hx
          rw [List.getElem?_set_self (by rw [List.length_set]; exact (List.getElem?_eq_some_iff.mp this).1), this]
        · rw [List.getElem?_set_ne (Ne.symm hm), List.getElem?_set_ne (Ne.symm hm)]
      rw [this] at st
      exact st
/-- a target stores only to these slots -/
def GOnly (vs : List Nat) (g : TG) : Prop := ∀ (v : V) (σ : L2.St) (H : Hp) (Q Q' : L2.St → Hp → Prop), (∀ σ' H', L2.wipe σ' vs = L2.wipe σ vs → Q σ' H' → Q' σ' H') → g v σ H Q → g v σ H Q'
def GsOnly (vs : List Nat) (g : TGs) : Prop := ∀ (xs : List V) (σ : L2.St) (H : Hp) (Q Q' : L2.St → Hp → Prop), (∀ σ' H', L2.wipe σ' vs = L2.wipe σ vs → Q σ' H' → Q' σ' H') → g xs σ H Q → g xs σ H Q'
theorem wipe_get {σ : L2.St} {j : Nat} : ∀ {vs : List Nat}, j ∉ vs → (L2.wipe σ vs)[j]? = σ[j]?
  | [], _ => rfl
  | v :: vs, h => by
    rw [List.mem_cons, not_or] at h
    show ((L2.wipe σ vs).set v none)[j]? = _
    rw [List.getElem?_set_ne (Ne.symm h.1)]
    exact wipe_get h.2
theorem wipe_in {σ : L2.St} {j : Nat} : ∀ {vs : List Nat}, j ∈ vs → (L2.wipe σ vs)[j]? = if j < σ.length then some none else none
  | v :: vs, h => by
    show ((L2.wipe σ vs).set v none)[j]? = _
    by_cases z : v = j
    · subst z
      by_cases hl : v < σ.length
      · rw [if_pos hl, List.getElem?_set_self (by rw [L2.wipe_length]; exact hl)]
      · rw [if_neg hl, List.getElem?_eq_none (by rw [List.length_set, L2.wipe_length]; omega)]
    · rw [List.getElem?_set_ne z]
      exact wipe_in ((List.mem_cons.mp h).resolve_left fun e => z e.symm)
theorem wipe_set {σ : L2.St} {i : Nat} {x : Option V} {vs : List Nat} (h : i ∈ vs) : L2.wipe (σ.set i x) vs = L2.wipe σ vs := by
  apply List.ext_getElem?
  intro j
  by_cases hj : j ∈ vs
  · rw [wipe_in hj, wipe_in hj, List.length_set]
  · rw [wipe_get hj, wipe_get hj, List.getElem?_set_ne (fun z => hj (by rw [← z]; exact h))]
theorem wipe_wipe {σ : L2.St} {vs : List Nat} : L2.wipe (L2.wipe σ vs) vs = L2.wipe σ vs := by
  apply List.ext_getElem?
  intro j
  by_cases hj : j ∈ vs
  · rw [wipe_in hj, wipe_in hj, L2.wipe_length]
  · rw [wipe_get hj]
theorem go_name {vs : List Nat} {i : Nat} (h : i ∈ vs) : GOnly vs (gName i) := fun v σ H Q Q' k q => k _ _ (wipe_set h) q
theorem gos_nil {vs : List Nat} : GsOnly vs gNil := fun xs σ H Q Q' k q => ⟨q.1, k _ _ rfl q.2⟩
theorem gos_cons {vs : List Nat} {g : TG} {u : TGs} (h : GOnly vs g) (h' : GsOnly vs u) : GsOnly vs (gCons g u) := fun xs σ H Q Q' k ⟨v, r, e, q⟩ =>
  ⟨v, r, e, h v σ H _ _ (fun σ1 H1 w1 q1 => h' r σ1 H1 _ _ (fun σ2 H2 w2 q2 => k σ2 H2 (w2.trans w1) q2) q1) q⟩
theorem go_tup {vs : List Nat} {n : Nat} {u : TGs} (h : GsOnly vs u) : GOnly vs (gTup K n u) := fun v σ H Q Q' k ⟨a, xs, e, hs, hl, q⟩ => ⟨a, xs, e, hs, hl, h xs σ H _ _ k q⟩
/-- a change at an address that is nobody's -/
theorem Rep.aside {B : Addr → Prop} {G H : Hp} {σ : L2.St} {ρ : Sl} {p : Addr} {o : HO} (R : Rep K B G H σ ρ) (hp : H p = none ∨ ∃ vs, H p = some (.lst vs)) (hg : G p = none) (hb : ¬ B p) (hs : ∀ (i : Nat) (u : OD), ρ[i]? = some (SD.own u) → σ[i]? ≠ some (some (V.ref p))) : Rep K B G (upd H p o) σ ρ := by
  refine ⟨R.gh.right hg, by
    rcases hp with hp | ⟨vs, hp⟩
    · exact R.tb.new hp
    · exact R.tb.put hp nt_lst (fun _ _ z => by unfold LamX.CodeO at z; cases z), R.z.step ⟨Ex.refl G, fun _ _ h => h, fun _ _ h => h, fun a u ha h _ => by rw [upd_ne (nb_ne hb ha)]; exact h, fun _ _ _ _ _ => rfl⟩, fun a ha => ?_, R.len, R.dat, fun i u hi => ?_, R.sep⟩
  · exact (R.bh a ha).upd (nb_ne hb ha)
  · obtain ⟨q, hq, h1, h2, h3, h4, h5⟩ := R.own i u hi
    have ne : q ≠ p := fun z => hs i u hi (by rw [h1, z])
    exact ⟨q, hq, h1, by rw [upd_ne ne]; exact h2, h3, h4, h5⟩
def compL (vs : List Nat) (wg : Wg) (wt : Wt) (we : We) : List PD → List PD → (List PD → Sl → Prop) → Sl → Prop
  | [], acc, Q, ρ => Q acc ρ
  | d :: ds, acc, Q, ρ => wg d ρ fun ρ1 => wt ρ1 fun b ρ2 => match b with
    | true => we ρ2 fun r ρ3 => warm r ρ3 ∧ frz [r.cool] ρ3 fun es ρ4 => match es with
      | [y] => acc.length < sizeLine ∧ compL vs wg wt we ds (acc ++ [y]) Q (wipeS ρ4 vs)
      | _ => False
    | false => compL vs wg wt we ds acc Q (wipeS ρ2 vs)
def wLc (vs : List Nat) (wi : Wi) (wg : Wg) (wt : Wt) (we : We) : We := fun ρ Q => wi ρ fun ds ρ1 => noOwn ρ1 vs = true ∧ compL vs wg wt we ds [] (fun acc ρ2 => Q (.own (.lst acc)) (restore ρ1 vs ρ2)) (wipeS ρ1 vs)
def T0 : Nat → Bool := fun _ => false
theorem pn0 {S0 σ : L2.St} : Pn T0 S0 σ := fun _ h => by cases h
theorem we_lc {vs : List Nat} {wi : TI} {wI : Wi} {g : TG} {wg : Wg} {tt : TT} {wt : Wt} (hv : vs.Nodup) (hi : WIi K wi wI) (hg : WGg K T0 g wg) (ho : GOnly vs g) (ht : WTt K tt wt) (he : WE K te we) : WE K (tLc wi g tt te vs) (wLc vs wI wg wt we) := fun B G H σ ρ Q QV R q k =>
  hi B G H σ ρ _ _ R q fun J G1 H1 ρ1 ds S1 R1 it ⟨no, q1⟩ => by
    intro D hD
    have gD : G1 D = none := R1.gh.free R1.tb hD
    have nB : ¬ B D := fun z => (R1.bh D z).no hD
    have nS : ∀ (i : Nat) (u : OD), ρ1[i]? = some (SD.own u) → σ[i]? ≠ some (some (V.ref D)) := fun i u hi hz => by
      obtain ⟨q, hq, h1, h2, _⟩ := R1.own i u hi
      rw [hz] at h1; cases h1; rw [hD] at h2; cases h2
    have R1' : Rep K B G1 (upd H1 D (.lst [])) σ ρ1 := R1.aside (.inl hD) gD nB nS
    -- what stands between two turns
    let Inv : List PD → Nat → Hp → Prop := fun acc i H' => ∃ G' ρ' vals, Stp B G H G' H' ∧ Ex G1 G' ∧ Rep K B G' H' (L2.wipe σ vs) ρ' ∧ H' D = some (.lst vals) ∧ G' D = none ∧ RpAll K G' vals acc ∧
      (∀ (i : Nat) (u : OD), ρ'[i]? = some (SD.own u) → (L2.wipe σ vs)[i]? ≠ some (some (V.ref D))) ∧ compL vs wg wt we (ds.drop i) acc (fun acc ρ2 => Q (.own (.lst acc)) (restore ρ1 vs ρ2)) ρ'
    refine ⟨fun i m H' => m = ds.length - i ∧ i ≤ ds.length ∧ ∃ acc, Inv acc i H', ⟨_, rfl, Nat.zero_le _, [], G1, wipeS ρ1 vs, [], S1.trans ⟨Ex.refl _, fun _ _ h => h, fun _ _ h => h, fun a o hb h _ => by rw [upd_ne (nb_ne nB hb)]; exact h, fun _ _ _ _ _ => rfl⟩, Ex.refl _, R1'.wipe vs, upd_same, gD, .nil, fun i u hi hz => ?_, q1⟩, ?_⟩
    · obtain ⟨q, hq, h1, h2, h3, h4, h5⟩ := (R1'.wipe vs).own i u hi
      obtain ⟨q', hq', g1, g2, _⟩ := (R1.wipe vs).own i u hi
      rw [hz] at h1 g1; cases h1; cases g1
      rw [hD] at g2; cases g2
    rintro i m H' ⟨rfl, hi, acc, G', ρ', vals, S', e', R', hDv, gD', ra, nS', q'⟩
    obtain ⟨hstop, hgo⟩ := it B (L2.wipe σ vs) ρ' G' H' e' R'
    by_cases hlt : i < ds.length
    · have hd : ds[i]? = some ds[i] := List.getElem?_eq_getElem hlt
      obtain ⟨go, _⟩ := hgo i _ hd
      refine .inr ⟨go, fun H2 => ∃ acc, Inv acc (i + 1) H2, fun H2 h2 => ⟨_, by omega, rfl, hlt, h2⟩, fun x H2 hy => ?_⟩
      rw [List.drop_eq_getElem_cons hlt] at q'
      -- D is kept while the turn goes
      let B' : Addr → Prop := fun a => B a ∨ a = D
      have RB : Rep K B' G' H' (L2.wipe σ vs) ρ' := by
        refine ⟨R'.gh, R'.tb, R'.z.more fun _ z => .inl z, fun a ha => ?_, R'.len, R'.dat, fun j u hj => ?_, R'.sep⟩
        · rcases ha with ha | rfl
          · exact R'.bh a ha
          · exact ⟨_, hDv, nt_lst⟩
        · obtain ⟨q, hq, h1, h2, h3, h4, h5⟩ := R'.own j u hj
          exact ⟨q, hq, h1, h2, h3, fun z => z.elim h4 fun z => nS' j u hj (by rw [h1, z]), h5⟩
      obtain ⟨_, hgoB⟩ := it B' (L2.wipe σ vs) ρ' G' H' e' RB
      obtain ⟨G2, S2, R2, rx⟩ := (hgoB i _ hd).2 x H2 hy
      have q2 : g x (L2.wipe σ vs) H2 fun σ2 H3 => H3 = H2 ∧ ∃ ρ2, Rep K B' G2 H2 σ2 ρ2 ∧ wt ρ2 fun b ρ2 => match b with
        | true => we ρ2 fun r ρ3 => warm r ρ3 ∧ frz [r.cool] ρ3 fun es ρ4 => match es with
          | [y] => acc.length < sizeLine ∧ compL vs wg wt we (ds.drop (i + 1)) (acc ++ [y]) (fun acc ρ2 => Q (.own (.lst acc)) (DL.restore ρ1 vs ρ2)) (wipeS ρ4 vs)
          | _ => False
        | false => compL vs wg wt we (ds.drop (i + 1)) acc (fun acc ρ2 => Q (.own (.lst acc)) (DL.restore ρ1 vs ρ2)) (wipeS ρ2 vs) :=
        hg B' G2 H2 (L2.wipe σ vs) [] ρ' x _ _ _ R2 pn0 rx q' fun σ' ρ2 R3 _ q3 => ⟨rfl, ρ2, R3, q3⟩
      refine ho x (L2.wipe σ vs) H2 _ _ (fun σ2 H3 w2 q3 => ?_) q2
      have w3 : L2.wipe σ2 vs = L2.wipe σ vs := w2.trans wipe_wipe
      obtain ⟨rfl, ρ2, R3, q3⟩ := q3
      refine ⟨w3, ht B' G2 H3 σ2 ρ2 _ _ R3 q3 fun b G4 H4 ρ4 S4 R4 q4 => ?_⟩
      have SB := S2.trans S4
      cases b with
      | false =>
        rw [if_neg Bool.false_ne_true]
        have RW := R4.wipe vs
        rw [w3] at RW
        exact ⟨acc, G4, _, vals, S'.trans (SB.weak fun _ z => .inl z), e'.trans SB.g, RW.weak R'.z.b fun _ z => .inl z, SB.h _ _ (.inr rfl) hDv nt_lst, (SB.n _ _ (.inr rfl) hDv trivial).trans gD', ra.mono SB.g, fun j u hj hz => by
          obtain ⟨q, hq, h1, _, _, h4, _⟩ := RW.own j u hj
          rw [hz] at h1; cases h1; exact h4 (.inr rfl), q4⟩
      | true =>
        rw [if_pos rfl]
        refine he B' G4 H4 σ2 ρ4 _ _ R4 q4 fun y G5 H5 ρ5 r S5 R5 rr ⟨c5, q5⟩ => ?_
        obtain ⟨G5', S5', R5', rr5', cc, ec⟩ := rr.cool R5 c5
        obtain ⟨⟨es', ρ6⟩, ee, q5⟩ := ok_some q5
        obtain ⟨G6, S6, R6, r6⟩ := frz_all R5' (.cons rr5' cc .nil) ee
        have SC := ((SB.trans S5).trans S5').trans S6
        have hD5 : H5 D = some (.lst vals) := SC.h _ _ (.inr rfl) hDv nt_lst
        have gD6 : G6 D = none := (SC.n _ _ (.inr rfl) hDv trivial).trans gD'
        match es', r6, q5 with
        | [yd], r6, ⟨hz, q5⟩ =>
          have RW := R6.wipe vs
          rw [w3] at RW
          have nSW : ∀ (j : Nat) (u : OD), (wipeS ρ6 vs)[j]? = some (SD.own u) → (L2.wipe σ vs)[j]? ≠ some (some (V.ref D)) := fun j u hj hz => by
            obtain ⟨q, hq, h1, _, _, h4, _⟩ := RW.own j u hj
            rw [hz] at h1; cases h1; exact h4 (.inr rfl)
          obtain ⟨yv, eyv, ryv⟩ := r6.one
          cases eyv
          refine ⟨vals, hD5, by rw [ra.length]; exact hz, acc ++ [yd], G6, _, vals ++ [y], (S'.trans (SC.weak fun _ z => .inl z)).trans ⟨Ex.refl _, fun _ _ h => h, fun _ _ h => h, fun a o hb h _ => by rw [upd_ne (nb_ne nB hb)]; exact h, fun _ _ _ _ _ => rfl⟩, e'.trans SC.g, (RW.weak R'.z.b fun _ z => .inl z).aside (.inr ⟨_, hD5⟩) gD6 nB nSW, upd_same, gD6, (ra.mono SC.g).append (.cons ryv .nil), nSW, q5⟩
    · have e : i = ds.length := by omega
      subst e
      rw [List.drop_length] at q'
      refine .inl ⟨hstop _ (Nat.le_refl _), ?_⟩
      have RB : Rep K (fun a => B a ∨ a = D) G' H' (L2.wipe σ vs) ρ' := by
        refine ⟨R'.gh, R'.tb, R'.z.more fun _ z => .inl z, fun a ha => ?_, R'.len, R'.dat, fun j u hj => ?_, R'.sep⟩
        · rcases ha with ha | rfl
          · exact R'.bh a ha
          · exact ⟨_, hDv, nt_lst⟩
        · obtain ⟨q, hq, h1, h2, h3, h4, h5⟩ := R'.own j u hj
          exact ⟨q, hq, h1, h2, h3, fun z => z.elim h4 fun z => nS' j u hj (by rw [h1, z]), h5⟩
      have RF := Rep.restore R1 e' hv no RB
      refine k _ G' H' _ _ S' (RF.weak R'.z.b fun _ z => .inl z) (.own hDv gD' nB (.lst ra) fun j u hj hz => ?_) q'
      obtain ⟨q, hq, h1, _, _, h4, _⟩ := RF.own j u hj
      rw [hz] at h1; cases h1; exact h4 (.inr rfl)
/-- [e for x in xs if t] -/
theorem de_lc {elt iter : Expr} {ifs : List Expr} {scope : Scope} {own : List (Str × Nat)} {wi : TI} {wI : Wi} {g : TG} {wg : Wg} {tt : TT} {wt : Wt} (hc : X.calm = true) (hN : X.N.Nodup) (hv : (own.map (·.2)).Nodup) (hi : DI X tg iter wi wI) (okb : BlkOk X.N X.env.scope scope own)
    (hg : ∀ (s : Shared) (H : Hp) (C : Addr) (cl : List (Str × Addr)) (fp : List Addr), DG (X.blk s H scope (compEnvC scope cl C X.env) fp) T0 tg g wg) (ho : GOnly (own.map (·.2)) g)
    (ht : ∀ (s : Shared) (H : Hp) (C : Addr) (cl : List (Str × Addr)) (fp : List Addr), PTs (X.blk s H scope (compEnvC scope cl C X.env) fp) ifs tt) (hw : WTt X.K tt wt)
    (he : ∀ (s : Shared) (H : Hp) (C : Addr) (cl : List (Str × Addr)) (fp : List Addr), DE (X.blk s H scope (compEnvC scope cl C X.env) fp) elt te we) (hs : ∀ x, foldedSetIterable iter X.env x = pure x := by intro _; rfl) :
    DE X (.ListComp elt [⟨tg, iter, ifs, 0⟩] scope pos) (tLc wi g tt te (own.map (·.2))) (wLc (own.map (·.2)) wI wg wt we) :=
  ⟨pe_lc hc hN hi.pi okb (fun s H C cl fp => (hg s H C cl fp).pg) ht (fun s H C cl fp => (he s H C cl fp).pe) hs, we_lc hv hi.wi (hg X.s_0 X.H_0 0 [] []).wg ho hw (he X.s_0 X.H_0 0 [] []).we⟩
def wYes : Wt := fun ρ Q => Q true ρ
theorem wt_yes : WTt K tYes wYes := fun B G H σ ρ Q QV R q k => k true G H ρ .refl R q
end
end DL

set_option Elab.async false
set_option linter.all false
set_option maxRecDepth 100000
set_option maxHeartbeats 2000000
namespace DL
open PySem L2
/-! ### defs -/
/-- no slot's thing -/
def Rz.free : Rz → Bool
  | .bor _ => false
  | _ => true
/-- what a def makes of its arguments: what it asks, what it gives, what becomes of the things lent to it; what is wanted of an exception -/
abbrev Fd := Sl → (Rz → Sl → Prop) → Xp → Prop
structure FnG (P : Program) (w : World) (KF : PySem.W.Frag) (Ts : List (Addr × Str)) (mg : Str → Option Value) (base : Heap) (k : Nat) (f : Addr) (fd : FuncData) (ps : List Str) (F : Fd) : Prop where
  run : ∀ (A : Around) (outer : List PySem.Env) (s : Shared) (H : Hp) (args : Args) (us : List Value) (vs : List V) (B : Addr → Prop) (G : Hp) (as : Sl) (Q : Rz → Sl → Prop) (Ξ : Xp) (QV : VK) (E : XK), Room k A → A.guards = some [] →
    Env0 P w KF mg base A outer s H → BindsTo s fd args (ps.zip us) → Vals vs us → vs.length = ps.length → Rep ⟨KF, Ts, B, G, H⟩ B G H (vs.map some) as → F as Q Ξ →
    (∀ v G' H' as' r, Stp B G H G' H' → Rep ⟨KF, Ts, B, G, H⟩ B G' H' (vs.map some) as' → RR ⟨KF, Ts, B, G, H⟩ B G' H' (vs.map some) as' v r → r.free = true → Q r as' → QV v H') →
    Lk KF B G H Ξ (fun cls d _ H' => E cls d H') →
    codeAny (model P w) A (.call (.ref f) args) (CR (L2.CX P w) outer P w H s QV E) s
theorem FnG.mono {P : Program} {w : World} {KF : PySem.W.Frag} {Ts : List (Addr × Str)} {mg : Str → Option Value} {base : Heap} {j k : Nat} {f : Addr} {fd : FuncData} {ps : List Str} {F : Fd} (h : FnG P w KF Ts mg base j f fd ps F) (hk : j ≤ k) : FnG P w KF Ts mg base k f fd ps F :=
  ⟨fun A outer s H args us vs B G as Q Ξ QV E hr => h.run A outer s H args us vs B G as Q Ξ QV E (hr.mono hk)⟩
/-- the context of a def's body -/
abbrev cxT (P : Program) (w : World) (KF : PySem.W.Frag) (Ts : List (Addr × Str)) (mg : Str → Option Value) (base : Heap) (N : List Str) (qual : Str) (scope : Scope) (f : Addr) (cdv : Value) (A : Around) (outer : List PySem.Env) (s : Shared) (H : Hp) (E : XK) (B : Addr → Prop) (G : Hp) (Ξ : Xp) (lk : Lk KF B G H Ξ (fun cls d _ H' => E cls d H')) : CxT :=
  ⟨cxOf (L2.CX P w) P w KF mg base N qual scope f cdv A outer s H E, Ts, B, G, H, Ξ, fun cls d _ H' => E cls d H', PassesOwn.leaving, takes_of rfl rfl rfl rfl, lk⟩
/-- what a body's end makes of the slots -/
def fin (T : Nat → Bool) (as ρ : Sl) : Sl := as.mapIdx fun i a => if T i then ρ.getD i .emp else a
def pinned (T : Nat → Bool) (as : Sl) : Prop := ∀ i o, as[i]? = some (SD.own o) → T i = true
/-- a result that leaves: a slot's own thing goes with it -/
def leave (T : Nat → Bool) (m : Nat) (r : Rz) (ρ : Sl) (Q : Rz → Sl → Prop) : Prop := match r with
  | .dat d => Q (.dat d) ρ
  | .own o => Q (.own o) ρ
  | .bor i => match ρ[i]? with
    | some (.dat d) => Q (.dat d) ρ
    | some (.own o) => (i < m → T i = false) ∧ Q (.own o) (ρ.set i .emp)
    | _ => False
def mkF (T : Nat → Bool) (n : Nat) (w : Xp → Ws) : Fd := fun as Q Ξ => pinned T as ∧ w Ξ { nx := fun ρ => Q (.dat .non) (fin T as ρ), rt := fun r ρ => leave T as.length r ρ fun r ρ => Q r (fin T as ρ) } (as ++ List.replicate (n - as.length) .emp)
section
variable {P : Program} {w : World} {K : KT} {mg : Str → Option Value} {base : Heap}
theorem rep_start {B : Addr → Prop} {G H : Hp} {vs : List V} {as : Sl} {N : List Str} (R : Rep K B G H (vs.map some) as) (hl : vs.length ≤ N.length) : Rep K B G H (L2.start N vs) (as ++ List.replicate (N.length - as.length) .emp) := by
  have hlen : as.length = vs.length := by have := R.len; rw [List.length_map] at this; exact this.symm
  have get : ∀ (i : Nat) (s : SD), (as ++ List.replicate (N.length - as.length) SD.emp)[i]? = some s → s ≠ .emp → i < as.length ∧ as[i]? = some s := fun i s h hne => by
    by_cases hi : i < as.length
    · rw [List.getElem?_append_left hi] at h; exact ⟨hi, h⟩
    · rw [List.getElem?_append_right (by omega)] at h
      have := List.eq_of_mem_replicate (List.mem_of_getElem? h)
      exact absurd this hne
  have gs : ∀ i, i < as.length → (L2.start N vs)[i]? = (vs.map some)[i]? := fun i hi => by
    unfold L2.start
    exact List.getElem?_append_left (by rw [List.length_map]; omega)
  refine ⟨R.gh, R.tb, R.z, R.bh, ?_, fun i d h => ?_, fun i o h => ?_, fun i j o u p x y z t => ?_⟩
  · unfold L2.start
    rw [List.length_append, List.length_append, List.length_map, List.length_replicate, List.length_replicate, hlen]
  · obtain ⟨a, b⟩ := get i _ h (by intro z; cases z)
    rw [gs i a]; exact R.dat i d b
  · obtain ⟨a, b⟩ := get i _ h (by intro z; cases z)
    rw [gs i a]; exact R.own i o b
  · obtain ⟨a, b⟩ := get i _ x (by intro z; cases z)
    obtain ⟨c, d⟩ := get j _ y (by intro z; cases z)
    rw [gs i a] at z; rw [gs j c] at t
    exact R.sep i j o u p b d z t
/-- back at the caller: the arguments' slots -/
theorem rep_fin {T : Nat → Bool} {B : Addr → Prop} {G0 H0 G H : Hp} {vs : List V} {as ρ : Sl} {σ : L2.St} {N : List Str} (R0 : Rep K B G0 H0 (vs.map some) as) (hp : pinned T as) (hl : vs.length ≤ N.length) (R : Rep K B G H σ ρ) (e : Ex G0 G) (P : Pn T (L2.start N vs) σ) :
    Rep K B G H (vs.map some) (fin T as ρ) := by
  have hlen : as.length = vs.length := by have := R0.len; rw [List.length_map] at this; exact this.symm
  have gs : ∀ i, i < as.length → T i = true → σ[i]? = (vs.map some)[i]? := fun i hi hT => by
    rw [P i hT]
    unfold L2.start
    exact List.getElem?_append_left (by rw [List.length_map]; omega)
  have get : ∀ (i : Nat) (s : SD), (fin T as ρ)[i]? = some s → i < as.length ∧ ((T i = true ∧ s = ρ.getD i .emp) ∨ (T i = false ∧ as[i]? = some s)) := fun i s h => by
    unfold fin at h
    rw [List.getElem?_mapIdx] at h
    cases ha : as[i]? with
    | none => rw [ha] at h; cases h
    | some a =>
      rw [ha] at h
      refine ⟨(List.getElem?_eq_some_iff.mp ha).1, ?_⟩
      cases hT : T i with
      | true => simp only [hT, Option.map_some, if_true] at h; cases h; exact .inl ⟨rfl, rfl⟩
      | false => simp only [hT, Option.map_some] at h; cases h; exact .inr ⟨rfl, rfl⟩
  have gd : ∀ (i : Nat) (s : SD), s ≠ .emp → s = ρ.getD i .emp → ρ[i]? = some s := fun i s hne h => by
    rw [List.getD_eq_getElem?_getD] at h
    cases hr : ρ[i]? with
    | none => rw [hr] at h; exact absurd h hne
    | some x => rw [hr] at h; rw [h]; rfl
  refine ⟨R.gh, R.tb, R.z, R.bh, by unfold fin; rw [List.length_map, List.length_mapIdx, hlen], fun i d h => ?_, fun i o h => ?_, fun i j o u p x y z t => ?_⟩
  · obtain ⟨hi, ⟨hT, hs⟩ | ⟨hT, hs⟩⟩ := get i _ h
    · rw [← gs i hi hT]; exact R.dat i d (gd i _ (by intro z; cases z) hs)
    · obtain ⟨v, h1, h2⟩ := R0.dat i d hs
      exact ⟨v, h1, h2.mono e⟩
  · obtain ⟨hi, ⟨hT, hs⟩ | ⟨hT, hs⟩⟩ := get i _ h
    · rw [← gs i hi hT]; exact R.own i o (gd i _ (by intro z; cases z) hs)
    · exact absurd (hp i o hs) (by rw [hT]; intro z; cases z)
  · obtain ⟨hi, ⟨hT, hs⟩ | ⟨hT, hs⟩⟩ := get i _ x
    · obtain ⟨hj, ⟨hT', hs'⟩ | ⟨hT', hs'⟩⟩ := get j _ y
      · rw [← gs i hi hT] at z; rw [← gs j hj hT'] at t
        exact R.sep i j o u p (gd i _ (by intro z; cases z) hs) (gd j _ (by intro z; cases z) hs') z t
      · exact absurd (hp j u hs') (by rw [hT']; intro z; cases z)
    · exact absurd (hp i o hs) (by rw [hT]; intro z; cases z)
theorem fng_of {KF : PySem.W.Frag} {Ts : List (Addr × Str)} {x qual : Str} {st : Stmt} {f : Addr} {oc kV doc pm cdv ct : Value} {od an : Option Addr} {osl : Array (Option Value)} {N ps : List Str} {k : Nat} {T : Nat → Bool} {wb : Xp → Ws}
    (lk : KF.lookup f = some ⟨oc, od, .func (PySem.W.fnOf x qual (defArgs st) (defBody st) (defScope st) .none kV doc pm an cdv ct), osl⟩) (hcd : PySem.W.codeIn KF cdv qual = true) (S : FnScope N ps (defScope st))
    (hbody : ∀ (A : Around) (outer : List PySem.Env) (s : Shared) (H : Hp) (E : XK) (B : Addr → Prop) (G : Hp) (Ξ : Xp) (lk : Lk KF B G H Ξ (fun cls d _ H' => E cls d H')), Room k (A.deeper (PyProof.Rows.envOfC qual (defScope st) s.heap.objs.size f cdv)) → (A.deeper (PyProof.Rows.envOfC qual (defScope st) s.heap.objs.size f cdv)).guards = some [] →
      ∃ t, DSs (cxT P w KF Ts mg base N qual (defScope st) f cdv A outer s H E B G Ξ lk) T (defBody st) t (wb Ξ)) : FnG P w KF Ts mg base (k + 1) f (PySem.W.fnOf x qual (defArgs st) (defBody st) (defScope st) .none kV doc pm an cdv ct) ps (mkF T N.length wb) := by
  refine ⟨fun A outer s H args us vs B G as Q Ξ QV E hr hg e0 hb r hl R ⟨hp, hw⟩ hk hx => ?_⟩
  have hN : vs.length ≤ N.length := by
    rw [hl]
    have := congrArg List.length S.pre
    rw [List.length_take] at this
    omega
  have hlen : as.length = vs.length := by have := R.len; rw [List.length_map] at this; exact this.symm
  refine LamX.run_ofS lk hcd S hr e0 hb r hl fun hr' => ?_
  obtain ⟨t, ht⟩ := hbody A outer s H E B G Ξ hx hr' hg
  refine ⟨t, ht.pss, ht.ws B G H _ (L2.start N vs) _ _ _ (rep_start R hN) (fun _ _ => rfl) hw (fun G' H' σ' ρ' S' R' P' q => ?_) (fun G' H' σ' ρ' v r S' R' P' rr q => ?_) (fun _ _ _ _ _ _ _ q => q.elim) (fun _ _ _ _ _ _ _ q => q.elim)⟩
  · exact hk .non G' H' _ _ S' (rep_fin R hp hN R' S'.g P') (.dat .non) rfl q
  · have RF := rep_fin R hp hN R' S'.g P'
    have owned : ∀ (p : Addr) (ρ2 : Sl), Rep ⟨KF, Ts, B, G, H⟩ B G' H' σ' ρ2 → (∀ (i : Nat) (u : OD), ρ2[i]? = some (SD.own u) → σ'[i]? ≠ some (some (V.ref p))) → ∀ (i : Nat) (u : OD), (fin T as ρ2)[i]? = some (SD.own u) → (vs.map some)[i]? ≠ some (some (V.ref p)) := fun p ρ2 R2 hno i u hi hz => by
      unfold fin at hi
      rw [List.getElem?_mapIdx] at hi
      cases ha : as[i]? with
      | none => rw [ha] at hi; cases hi
      | some a =>
        rw [ha] at hi
        have hil := (List.getElem?_eq_some_iff.mp ha).1
        cases hT : T i with
        | true =>
          simp only [hT, Option.map_some, if_true] at hi
          have hi : ρ2.getD i .emp = SD.own u := Option.some.inj hi
          rw [List.getD_eq_getElem?_getD] at hi
          cases hr : ρ2[i]? with
          | none => rw [hr] at hi; cases hi
          | some y =>
            rw [hr] at hi
            have hi : y = SD.own u := hi
            subst hi
            refine hno i u hr ?_
            rw [P' i hT]
            unfold L2.start
            rw [List.getElem?_append_left (by rw [List.length_map]; omega)]
            exact hz
        | false =>
          simp only [hT, Option.map_some] at hi
          have hi : a = SD.own u := Option.some.inj hi
          subst hi
          have := hp i u ha
          rw [hT] at this; cases this
    cases rr with
    | dat z => exact hk v G' H' _ _ S' RF (.dat z) rfl q
    | own h1 h2 h3 h4 h5 => exact hk _ G' H' _ _ S' RF (.own h1 h2 h3 h4 (owned _ ρ' R' h5)) rfl q
    | bor hz =>
      rename_i i
      have q : match ρ'[i]? with | some (.dat d) => Q (.dat d) (fin T as ρ') | some (.own o) => (i < as.length → T i = false) ∧ Q (.own o) (fin T as (ρ'.set i .emp)) | _ => False := by
        unfold leave at q
        cases hi : ρ'[i]? with
        | none => simp only [hi] at q
        | some s => cases s <;> first | (simp only [hi] at q; done) | (simp only [hi] at q ⊢; exact q)
      cases hi : ρ'[i]? with
      | none => rw [hi] at q; exact q.elim
      | some s =>
        cases s with
        | emp => rw [hi] at q; exact q.elim
        | dat d =>
          rw [hi] at q
          obtain ⟨w1, w2, w3⟩ := R'.dat _ _ hi
          rw [hz] at w2; cases w2
          exact hk _ G' H' _ _ S' RF (.dat w3) rfl q
        | own o =>
          rw [hi] at q
          obtain ⟨p, ho, w2, h1, h2, h3, h4⟩ := R'.own _ _ hi
          rw [hz] at w2; cases w2
          have RE := R'.emp i
          have no : ∀ (j : Nat) (u : OD), (ρ'.set i SD.emp)[j]? = some (SD.own u) → σ'[j]? ≠ some (some (V.ref p)) := fun j u hj hq => by
            by_cases z : j = i
            · subst z; rw [List.getElem?_set_self (List.getElem?_eq_some_iff.mp hi).1] at hj; cases hj
            · rw [List.getElem?_set_ne (Ne.symm z)] at hj
              exact z (R'.sep j i u o p hj hi hq hz)
          exact hk _ G' H' _ _ S' (rep_fin R hp hN RE S'.g P') (.own h1 h2 h3 h4 (owned p _ RE no)) rfl q.2
end
end DL

set_option Elab.async false
set_option linter.all false
set_option maxRecDepth 100000
set_option maxHeartbeats 2000000
namespace DL
open PySem L2
/-! ### calls of defs -/
def isBor (i : Nat) (r : Rz) : Bool := match r with
  | .bor j => decide (j = i)
  | _ => false
def argOf (ρ : Sl) (r : Rz) : SD := match r with
  | .dat d => .dat d
  | .own _ => .emp
  | .bor i => ρ.getD i .emp
def backS (ρ : Sl) (rs : List Rz) (as : Sl) : Sl := ρ.mapIdx fun i s => match s with
  | .own o => match rs.findIdx? (isBor i) with
    | some k => as.getD k .emp
    | none => .own o
  | s => s
def newBor (r : Rz) (rs : List Rz) : Bool := match r with
  | .bor i => !rs.any (isBor i)
  | _ => true
def onceB : List Rz → Bool
  | [] => true
  | r :: rs => newBor r rs && onceB rs
theorem once_of : ∀ {rs : List Rz} {k l i : Nat}, onceB rs = true → rs[k]? = some (Rz.bor i) → rs[l]? = some (Rz.bor i) → k = l
  | [], k, l, i, _, h, _ => by simp at h
  | r :: rs, k, l, i, h, h1, h2 => by
    have hh : newBor r rs = true ∧ onceB rs = true := Bool.and_eq_true_iff.mp h
    have no : ∀ m, rs[m]? = some (Rz.bor i) → r ≠ .bor i := fun m hm hr => by
      subst hr
      have h0 : (!rs.any (isBor i)) = true := hh.1
      have h3 : rs.any (isBor i) = true := List.any_eq_true.mpr ⟨_, List.mem_of_getElem? hm, by unfold isBor; simp⟩
      rw [h3] at h0; cases h0
    cases k with
    | zero =>
      cases l with
      | zero => rfl
      | succ l =>
        simp only [List.getElem?_cons_zero, List.getElem?_cons_succ] at h1 h2
        exact absurd (Option.some.inj h1) (no l h2)
    | succ k =>
      cases l with
      | zero =>
        simp only [List.getElem?_cons_zero, List.getElem?_cons_succ] at h1 h2
        exact absurd (Option.some.inj h2) (no k h1)
      | succ l =>
        simp only [List.getElem?_cons_succ] at h1 h2
        rw [once_of hh.2 h1 h2]
section
variable {X : CxT} {K : KT} {e : Expr} {es : List Expr} {t : TA} {wa : Wa} {F : Fd} {x : Str} {p pos : Pos}
def SpG (KF : PySem.W.Frag) (Ts : List (Addr × Str)) (n : Nat) (F : Fd) (vs : List V) (H : Hp) (QV : VK) (E : XK) : Prop := ∃ (B : Addr → Prop) (G : Hp) (as : Sl) (Q : Rz → Sl → Prop) (Ξ : Xp), vs.length = n ∧ Rep ⟨KF, Ts, B, G, H⟩ B G H (vs.map some) as ∧ F as Q Ξ ∧
  (∀ v G' H' as' r, Stp B G H G' H' → Rep ⟨KF, Ts, B, G, H⟩ B G' H' (vs.map some) as' → RR ⟨KF, Ts, B, G, H⟩ B G' H' (vs.map some) as' v r → r.free = true → Q r as' → QV v H') ∧ Lk KF B G H Ξ (fun cls d _ H' => E cls d H')
def tCallG (KF : PySem.W.Frag) (Ts : List (Addr × Str)) (n : Nat) (F : Fd) (W : WX) (t : TA) : TE := fun σ H Q => t σ H fun vs H1 => SpG KF Ts n F vs H1 Q (fun cls d H' => W cls d σ H')
def wCall (n : Nat) (F : Fd) (Ξ : Xp) (wa : Wa) : We := fun ρ Q => wa ρ fun rs ρ1 => rs.length = n ∧ onceB rs = true ∧ F (rs.map (argOf ρ1)) (fun r as => Q r (backS ρ1 rs as)) Ξ
theorem rrs_get {B : Addr → Prop} {G H : Hp} {σ : L2.St} {ρ : Sl} : ∀ {vs : List V} {rs : List Rz} {k : Nat} {r : Rz}, RRs K B G H σ ρ vs rs → rs[k]? = some r → ∃ v, vs[k]? = some v ∧ RR K B G H σ ρ v r ∧ r.cold = true
  | _, _, _, _, .nil, h => by simp at h
  | _, _, 0, r, .cons h c t, e => by simp at e; subst e; exact ⟨_, rfl, h, c⟩
  | _, _, k + 1, r, .cons h c t, e => by
    obtain ⟨v, a, b⟩ := rrs_get (k := k) (r := r) t (by simpa using e)
    exact ⟨v, by simpa using a, b⟩
theorem rrs_len {B : Addr → Prop} {G H : Hp} {σ : L2.St} {ρ : Sl} : ∀ {vs : List V} {rs : List Rz}, RRs K B G H σ ρ vs rs → vs.length = rs.length
  | _, _, .nil => rfl
  | _, _, .cons _ _ t => congrArg (· + 1) (rrs_len t)
/-- at a call: the arguments as the callee's slots; what is not lent is not to be changed -/
theorem call_in {B : Addr → Prop} {G H : Hp} {σ : L2.St} {ρ : Sl} {vs : List V} {rs : List Rz} (R : Rep K B G H σ ρ) (rr : RRs K B G H σ ρ vs rs) (ho : onceB rs = true) :
    Rep (K.at (fun a => Tr H a ∧ ∀ (i : Nat) (o : OD), Rz.bor i ∈ rs → ρ[i]? = some (SD.own o) → σ[i]? ≠ some (some (V.ref a))) G H) (fun a => Tr H a ∧ ∀ (i : Nat) (o : OD), Rz.bor i ∈ rs → ρ[i]? = some (SD.own o) → σ[i]? ≠ some (some (V.ref a))) G H (vs.map some) (rs.map (argOf ρ)) := by
  have get : ∀ (k : Nat) (s : SD), (rs.map (argOf ρ))[k]? = some s → ∃ r v, rs[k]? = some r ∧ vs[k]? = some v ∧ RR K B G H σ ρ v r ∧ r.cold = true ∧ argOf ρ r = s ∧ (vs.map some)[k]? = some (some v) := fun k s h => by
    rw [List.getElem?_map] at h
    cases hr : rs[k]? with
    | none => rw [hr] at h; cases h
    | some r =>
      rw [hr] at h
      obtain ⟨v, hv, h1, h2⟩ := rrs_get rr hr
      exact ⟨r, v, rfl, hv, h1, h2, Option.some.inj h, by rw [List.getElem?_map, hv]; rfl⟩
  refine ⟨R.gh, R.tb, R.z.new, fun a h => h.1, by rw [List.length_map, List.length_map]; exact rrs_len rr, fun k d h => ?_, fun k o h => ?_, fun k l o u q hk hl hz hw => ?_⟩
  · obtain ⟨r, v, h1, h2, h3, h4, h5, h6⟩ := get k _ h
    refine ⟨v, h6, ?_⟩
    cases h3 with
    | dat z => cases h5; exact z
    | own => cases h4
    | bor hz =>
      rename_i i
      have h5 : ρ.getD i .emp = SD.dat d := h5
      rw [List.getD_eq_getElem?_getD] at h5
      cases hi : ρ[i]? with
      | none => rw [hi] at h5; cases h5
      | some s =>
        rw [hi] at h5
        have h5 : s = SD.dat d := h5
        subst h5
        obtain ⟨w, w1, w2⟩ := R.dat _ _ hi
        rw [hz] at w1; cases w1
        exact w2
  · obtain ⟨r, v, h1, h2, h3, h4, h5, h6⟩ := get k _ h
    cases h3 with
    | dat z => cases h5
    | own => cases h4
    | bor hz =>
      rename_i i
      have h5 : ρ.getD i .emp = SD.own o := h5
      rw [List.getD_eq_getElem?_getD] at h5
      cases hi : ρ[i]? with
      | none => rw [hi] at h5; cases h5
      | some s =>
        rw [hi] at h5
        have h5 : s = SD.own o := h5
        subst h5
        obtain ⟨q, ho', w1, w2, w3, w4, w5⟩ := R.own _ _ hi
        rw [hz] at w1; cases w1
        exact ⟨q, ho', h6, w2, w3, fun z => z.2 i o (List.mem_of_getElem? h1) hi hz, w5⟩
  · have own : ∀ (k : Nat) (o : OD), (rs.map (argOf ρ))[k]? = some (SD.own o) → (vs.map some)[k]? = some (some (V.ref q)) → ∃ i, rs[k]? = some (Rz.bor i) ∧ ρ[i]? = some (SD.own o) ∧ σ[i]? = some (some (V.ref q)) := fun k o h hz => by
      obtain ⟨r, v, h1, h2, h3, h4, h5, h6⟩ := get k _ h
      rw [h6] at hz; cases hz
      cases h3 with
      | dat z => cases h5
      | own => cases h4
      | bor hz =>
        rename_i i
        have h5 : ρ.getD i .emp = SD.own o := h5
        rw [List.getD_eq_getElem?_getD] at h5
        cases hi : ρ[i]? with
        | none => rw [hi] at h5; cases h5
        | some s =>
          rw [hi] at h5
          have h5 : s = SD.own o := h5
          subst h5
          exact ⟨i, h1, hi, hz⟩
    obtain ⟨i, a1, a2, a3⟩ := own k o hk hz
    obtain ⟨j, b1, b2, b3⟩ := own l u hl hw
    have := R.sep i j o u q a2 b2 a3 b3
    subst this
    exact once_of ho a1 b1
theorem find_bor {rs : List Rz} {i k : Nat} (h : rs.findIdx? (isBor i) = some k) : rs[k]? = some (Rz.bor i) := by
  obtain ⟨hl, hb, _⟩ := List.findIdx?_eq_some_iff_getElem.mp h
  rw [List.getElem?_eq_getElem hl]
  cases hr : rs[k] with
  | bor j =>
    rw [hr] at hb
    have : j = i := of_decide_eq_true hb
    rw [this]
  | dat d => rw [hr] at hb; cases hb
  | own o => rw [hr] at hb; cases hb
theorem find_none {rs : List Rz} {i : Nat} (h : rs.findIdx? (isBor i) = none) : Rz.bor i ∉ rs := fun hm => by
  have := List.findIdx?_eq_none_iff.mp h _ hm
  unfold isBor at this
  simp at this
/-- behind a call -/
theorem call_out {B1 : Addr → Prop} {G1 H1 : Hp} {B : Addr → Prop} {G H G' H' : Hp} {σ : L2.St} {ρ as : Sl} {vs : List V} {rs : List Rz} {v : V} {r : Rz} (R : Rep K B G H σ ρ) (rr : RRs K B G H σ ρ vs rs) 
    (S : Stp (fun a => Tr H a ∧ ∀ (i : Nat) (o : OD), Rz.bor i ∈ rs → ρ[i]? = some (SD.own o) → σ[i]? ≠ some (some (V.ref a))) G H G' H')
    (RA : Rep (K.at B1 G1 H1) (fun a => Tr H a ∧ ∀ (i : Nat) (o : OD), Rz.bor i ∈ rs → ρ[i]? = some (SD.own o) → σ[i]? ≠ some (some (V.ref a))) G' H' (vs.map some) as)
    (rv : RR (K.at B1 G1 H1) (fun a => Tr H a ∧ ∀ (i : Nat) (o : OD), Rz.bor i ∈ rs → ρ[i]? = some (SD.own o) → σ[i]? ≠ some (some (V.ref a))) G' H' (vs.map some) as v r) (hf : r.free = true) :
    Stp B G H G' H' ∧ Rep K B G' H' σ (backS ρ rs as) ∧ RR K B G' H' σ (backS ρ rs as) v r := by
  have BB : ∀ a, B a → Tr H a ∧ ∀ (i : Nat) (o : OD), Rz.bor i ∈ rs → ρ[i]? = some (SD.own o) → σ[i]? ≠ some (some (V.ref a)) := fun a hb => ⟨R.bh a hb, fun i o _ hi hz => by
    obtain ⟨q, ho, h1, h2, h3, h4, h5⟩ := R.own i o hi
    rw [hz] at h1; cases h1; exact h4 hb⟩
  -- what a slot holds behind the call
  have get : ∀ (i : Nat) (s : SD), (backS ρ rs as)[i]? = some s → (ρ[i]? = some s ∧ (∀ o, s = .own o → rs.findIdx? (isBor i) = none)) ∨ (∃ o k, ρ[i]? = some (SD.own o) ∧ rs[k]? = some (Rz.bor i) ∧ s = as.getD k .emp) := fun i s h => by
    unfold backS at h
    rw [List.getElem?_mapIdx] at h
    cases hi : ρ[i]? with
    | none => rw [hi] at h; cases h
    | some x =>
      rw [hi] at h
      cases x with
      | emp => cases h; exact .inl ⟨rfl, fun o z => by cases z⟩
      | dat d => cases h; exact .inl ⟨rfl, fun o z => by cases z⟩
      | own o =>
        have h := Option.some.inj h
        cases hk : rs.findIdx? (isBor i) with
        | none => simp only [hk] at h; subst h; exact .inl ⟨rfl, fun _ _ => rfl⟩
        | some k => simp only [hk] at h; exact .inr ⟨o, k, rfl, find_bor hk, h.symm⟩
  have slot : ∀ {i k : Nat}, rs[k]? = some (Rz.bor i) → (vs.map some)[k]? = σ[i]? := fun {i k} h => by
    obtain ⟨w, w1, w2, _⟩ := rrs_get rr h
    cases w2 with
    | bor hz => rw [hz, List.getElem?_map, w1]; rfl
  have gd : ∀ (i : Nat) (s : SD), s ≠ .emp → s = as.getD i .emp → as[i]? = some s := fun i s hne h => by
    rw [List.getD_eq_getElem?_getD] at h
    cases hr : as[i]? with
    | none => rw [hr] at h; exact absurd h hne
    | some x => rw [hr] at h; rw [h]; rfl
  have was : ∀ (i : Nat) (o : OD), (backS ρ rs as)[i]? = some (SD.own o) → ∃ o', ρ[i]? = some (SD.own o') := fun i o h => by
    rcases get i _ h with ⟨h1, _⟩ | ⟨o', k, h1, _, _⟩
    · exact ⟨o, h1⟩
    · exact ⟨o', h1⟩
  have RO : Rep K B G' H' σ (backS ρ rs as) := by
    refine ⟨RA.gh, RA.tb, R.z.step (S.weak BB), fun a hb => RA.bh a (BB a hb), by unfold backS; rw [List.length_mapIdx]; exact R.len, fun i d h => ?_, fun i o h => ?_, fun i j o u q x y z t => ?_⟩
    · rcases get i _ h with ⟨h1, _⟩ | ⟨o', k, h1, h2, h3⟩
      · obtain ⟨w, w1, w2⟩ := R.dat i d h1
        exact ⟨w, w1, w2.mono S.g⟩
      · rw [← slot h2]
        exact RA.dat k d (gd k _ (by intro z; cases z) h3)
    · rcases get i _ h with ⟨h1, h2⟩ | ⟨o', k, h1, h2, h3⟩
      · obtain ⟨q, ho, w1, w2, w3, w4, w5⟩ := R.own i o h1
        have nm := find_none (h2 o rfl)
        have hB : Tr H q ∧ ∀ (i : Nat) (o : OD), Rz.bor i ∈ rs → ρ[i]? = some (SD.own o) → σ[i]? ≠ some (some (V.ref q)) := ⟨⟨_, w2, w5.nt⟩, fun j u hj hu hz => nm ((R.sep j i u o q hu h1 hz w1) ▸ hj)⟩
        exact ⟨q, ho, w1, S.h q ho hB w2 w5.nt, (S.n q ho hB w2 w5.ow).trans w3, w4, w5.mono S.g⟩
      · rw [← slot h2]
        obtain ⟨q, ho, w1, w2, w3, w4, w5⟩ := RA.own k o (gd k _ (by intro z; cases z) h3)
        exact ⟨q, ho, w1, w2, w3, fun hb => w4 (BB q hb), w5⟩
    · obtain ⟨o', h1⟩ := was i o x
      obtain ⟨u', h2⟩ := was j u y
      exact R.sep i j o' u' q h1 h2 z t
  refine ⟨S.weak BB, RO, ?_⟩
  cases rv with
  | dat z => exact .dat z
  | bor z => cases hf
  | own h1 h2 h3 h4 h5 =>
    rename_i p ho o
    refine .own h1 h2 (fun hb => h3 (BB _ hb)) h4 fun i u hi hz => ?_
    rcases get i _ hi with ⟨g1, g2⟩ | ⟨o', k, g1, g2, g3⟩
    · obtain ⟨q, hq, w1, w2, w3, w4, w5⟩ := R.own i u g1
      rw [hz] at w1; cases w1
      have nm := find_none (g2 u rfl)
      exact h3 ⟨⟨_, w2, w5.nt⟩, fun j u' hj hu hz' => nm ((R.sep j i u' u p hu g1 hz' hz) ▸ hj)⟩
    · exact h5 k u (gd k _ (by intro z; cases z) g3) (by rw [slot g2]; exact hz)
/-- an exception that leaves a call leaves its caller's entry too -/
theorem lk_call {K : KT} {B B' : Addr → Prop} {G H : Hp} {Ξ : Xp} {W : WX} {σ : L2.St} (z : Zt K B G H) (hb : ∀ a, B a → B' a) (lk : Lk K.F K.B0 K.G0 K.H0 Ξ W) : Lk K.F B' G H Ξ (fun cls d _ H' => W cls d σ H') :=
  fun G' H' _ C d fs v u S b1 tb ex h1 h2 h3 r q => lk G' H' σ C d fs v u (z.s.trans (S.weak fun a h => hb a (z.b a h))) (fun a h => b1 a (hb a (z.b a h))) tb ex h1 h2 h3 r q
theorem call_b {B : Addr → Prop} {G H : Hp} {σ : L2.St} {ρ : Sl} {rs : List Rz} (R : Rep K B G H σ ρ) : ∀ a, B a → Tr H a ∧ ∀ (i : Nat) (o : OD), Rz.bor i ∈ rs → ρ[i]? = some (SD.own o) → σ[i]? ≠ some (some (V.ref a)) := fun a hb => ⟨R.bh a hb, fun i o _ hi hz => by
  obtain ⟨q, ho, h1, h2, h3, h4, h5⟩ := R.own i o hi
  rw [hz] at h1; cases h1; exact h4 hb⟩
theorem we_call {n : Nat} {Ξ : Xp} {W : WX} (lk : Lk K.F K.B0 K.G0 K.H0 Ξ W) (ha : WAa K t wa) : WE K (tCallG K.F K.T n F W t) (wCall n F Ξ wa) := fun B G H σ ρ Q QV R q k =>
  ha B G H σ ρ _ _ R q fun vs G1 H1 ρ1 rs S1 R1 rr ⟨hl, ho, q1⟩ =>
    ⟨_, G1, rs.map (argOf ρ1), _, Ξ, by rw [rrs_len rr]; exact hl, call_in R1 rr ho, q1, fun v G' H' as' r S' RA rv hf q2 => by
      obtain ⟨a, b, c⟩ := call_out R1 rr S' RA rv hf
      exact k v G' H' _ r (S1.trans a) b c q2, lk_call R1.z (call_b R1) lk⟩
theorem pe_callG {k : Nat} {f : Addr} {fd : FuncData} {ps : List Str} (F0 : FnG X.prog X.w X.cx.K X.T X.mg X.base k f fd ps F) (hr : Room k X.A) (hgd : X.A.guards = some []) (hg : Gl X x) (hm : X.mg x = some (.ref f)) (hk : PySem.W.keepIn X.cx.K (.ref f) = true) (hb : Binds X.cx.K fd ps [])
    (ha : PA X (e :: es) t) (hdb : (x == ("__debug__" : Str)) = false := by decide) (he : starEach (e :: es) X.env = (false, eval e X.env) :: starEach es X.env := by rfl) (hpl : (backTo pos (starEach es X.env)).any (·.1) = false := by rfl) :
    PE X (.Call (.Name x p) (e :: es) [] pos) (tCallG X.cx.K X.T ps.length F X.W t) := by
  refine ⟨fun pins s σ H Q I h => ?_⟩
  refine wpAny_Call_Name_kw (ld_glob I hg hm ?_ hdb)
  refine PySem.W.callWith_K (h₀ := X.base) I.ok.mod.kin hk (thn (ha.run pos pins s σ H _ I h) fun us s1 ⟨vs, H1, I1, r, q⟩ => ⟨I1.kIn, ?_⟩) he hpl
  obtain ⟨B, G, as, Q', Ξ, hl, R, hF, hk, hx⟩ := q
  have hb' := hb s1 us I1.kIn (by rw [List.append_nil, ← r.length]; exact hl)
  rw [List.append_nil] at hb'
  refine wpAny_call (codeAny_mono (F0.run X.A X.stack s1 H1 ⟨us, []⟩ us vs B G as Q' Ξ Q (fun cls d H' => X.W cls d σ H') hr hgd I1.env0 hb' r hl R hF hk hx) fun r s' hq => ?_)
  match r, hq with
  | .ok (.ret u), hq => exact I1.after hq
  | .ok .next, hq => exact False.elim hq
  | .ok .brk, hq => exact False.elim hq
  | .ok .cont, hq => exact False.elim hq
  | .error e, hq => exact X.tk e s' (XE.of_call I1 (fun _ _ _ h => h) hq)
theorem de_call {k : Nat} {f : Addr} {fd : FuncData} {ps : List Str} (F0 : FnG X.prog X.w X.cx.K X.T X.mg X.base k f fd ps F) (hr : Room k X.A) (hgd : X.A.guards = some []) (hg : Gl X x) (hm : X.mg x = some (.ref f)) (hk : PySem.W.keepIn X.cx.K (.ref f) = true) (hb : Binds X.cx.K fd ps [])
    (ha : DA X (e :: es) t wa) (hdb : (x == ("__debug__" : Str)) = false := by decide) (he : starEach (e :: es) X.env = (false, eval e X.env) :: starEach es X.env := by rfl) (hpl : (backTo pos (starEach es X.env)).any (·.1) = false := by rfl) :
    DE X (.Call (.Name x p) (e :: es) [] pos) (tCallG X.cx.K X.T ps.length F X.W t) (wCall ps.length F X.Ξ wa) := ⟨pe_callG F0 hr hgd hg hm hk hb ha.pa hdb he hpl, we_call X.lk ha.wa⟩
end
end DL

set_option Elab.async false
set_option linter.all false
set_option maxRecDepth 100000
set_option maxHeartbeats 2000000
namespace DL
open PySem L2
/-- a def that can be called by its name -/
structure Cal (P : Program) (w : World) (KF : PySem.W.Frag) (Ts : List (Addr × Str)) (mg : Str → Option Value) (base : Heap) (k : Nat) (x : Str) (ps : List Str) (F : Fd) : Prop where
  ex : ∃ f fd, mg x = some (.ref f) ∧ PySem.W.keepIn KF (.ref f) = true ∧ Binds KF fd ps [] ∧ FnG P w KF Ts mg base k f fd ps F
/-! ### the law's own call -/
/-- a def that makes lambdas: its name, its code object, that one's table, the name of what is made there -/
structure Lm where
  x : Str
  c : Addr
  P : Addr
  q : Str
/-- the heap that the layer sees at the law's entry: the script alone, known to the object -/
def seen (K : PySem.W.Frag) (a : Addr) (vs : List Value) (ns : List Int) : Hp := fun b => match K.lookup a with
  | some _ => none
  | none => if b = a then some (.frz { cls := .type "list", data := .seq vs.toArray } (.lst (ns.map V.int))) else none
theorem seen_at {K : PySem.W.Frag} {a : Addr} {vs : List Value} {ns : List Int} {b : Addr} {u : HO} (h : seen K a vs ns b = some u) : K.lookup a = none ∧ b = a ∧ u = .frz { cls := .type "list", data := .seq vs.toArray } (.lst (ns.map V.int)) := by
  unfold seen at h
  split at h
  · cases h
  · rename_i e
    by_cases hb : b = a
    · rw [if_pos hb] at h; cases h; exact ⟨e, hb, rfl⟩
    · rw [if_neg hb] at h; cases h
/-- .. and the tables, as they stand; .. and their marks -/
def seenT (ls : List Lm) (H : Hp) : Hp := fun b => match ls.find? fun p => p.P == b with
  | some _ => some (.tbl #[])
  | none => H b
def markT (ls : List Lm) (H : Hp) : Hp := fun b => match ls.find? fun p => p.P == b with
  | some p => some (.tbl #[Value.str p.q 0])
  | none => H b
theorem find_mem {ls : List Lm} {b : Addr} {p : Lm} (h : (ls.find? fun p => p.P == b) = some p) : p ∈ ls ∧ p.P = b := ⟨List.mem_of_find?_eq_some h, by have := List.find?_some h; simpa using this⟩
theorem find_one {ls : List Lm} (nd : (ls.map (·.P)).Nodup) {p : Lm} (h : p ∈ ls) : (ls.find? fun q => q.P == p.P) = some p := by
  induction ls with
  | nil => cases h
  | cons r ls ih =>
    rw [List.map_cons, List.nodup_cons] at nd
    rcases List.mem_cons.mp h with rfl | h
    · simp [List.find?]
    · have : (r.P == p.P) = false := by
        have : r.P ≠ p.P := fun z => nd.1 (List.mem_map.mpr ⟨p, h, z.symm⟩)
        simpa using this
      rw [List.find?_cons_of_neg (by simp [this])]
      exact ih nd.2 h
theorem law_runs {P : Program} {w : World} {K : PySem.W.Frag} {mg mb : Str → Option Value} {k : Nat} {fa a : Addr} {x y : Str} {F : Fd} {s : Shared} {vs : List Value} {ns : List Int} {ls : List Lm}
    (KX : K.In s.heap) (hns : s.heap.Ns mainGlobals mg) (hb : s.heap.Ns builtinsNs mb) (hbb : ∀ x : Str, x ≠ "__name__" → mb x = bootBuiltins x) (hlim : s.heap.NoLimit) (hg : s.gens = #[])
    (hT : ∀ p ∈ ls, s.heap.get? p.P = some { cls := .none, data := .fields #[] }) (nT : ∀ p ∈ ls, K.lookup p.P = none) (C : ∀ p ∈ ls, PySem.W.CodeHd s.heap p.c p.P) (nd : (ls.map (·.P)).Nodup)
    (hbm : ∃ (bm : Addr) (ob : Obj), mg "__builtins__" = some (.ref bm) ∧ bm ≠ builtinsNs ∧ s.heap.get? bm = some ob ∧ ob.cls = .type "module" ∧ ob.dict = some builtinsNs ∧ ob.data = .plain)
    (ha : s.heap.get? a = some { cls := .type "list", data := .seq vs.toArray }) (hi : PyProof.Rows.IntsAre vs ns) (hl : ns.length ≤ sizeLine) (hr : Room k callerA)
    (hf : ∀ base : Heap, K.In base → base.Ns mainGlobals mg → (∀ p ∈ ls, LamX.TabB base mg p.c p.P) → Cal P w K (ls.map fun p => (p.P, p.q)) mg base k y [x] F) (hy : mg y = some (.ref fa))
    (hF : F [.dat (.scr ns)] (fun r _ => r = .dat (.bl true)) noX) :
    codeAny (model P w) callerA (.call (.ref fa) ⟨[.ref a], []⟩) (fun r s' => r = .ok (.ret (.bool true)) ∧ OldK s.heap s'.heap ∧ s'.os = s.os ∧ PyProof.Rows.AllBare s'.gens) s := by
  have rv := vals_ints hi
  have aT : ∀ p ∈ ls, p.P ≠ a := fun p hp z => by
    have e := hT p hp
    rw [z, ha] at e
    cases e
  have fa0 : (ls.find? fun p => p.P == a) = none := List.find?_eq_none.mpr fun p hp z => aT p hp (by simpa using z)
  generalize hHdef : seenT ls (seen K a vs ns) = H
  have hH : ∀ b, H b = match ls.find? fun p => p.P == b with | some _ => some (.tbl #[]) | none => seen K a vs ns b := fun b => by rw [← hHdef]; rfl
  have tbl : ∀ p ∈ ls, H p.P = some (.tbl #[]) := fun p hp => by rw [hH, find_one nd hp]
  have cases' : ∀ {b : Addr} {u : HO}, H b = some u → (∃ p ∈ ls, p.P = b ∧ u = .tbl #[]) ∨ (K.lookup a = none ∧ b = a ∧ u = .frz { cls := .type "list", data := .seq vs.toArray } (.lst (ns.map V.int))) := fun {b u} h => by
    rw [hH] at h
    cases e : ls.find? fun p => p.P == b with
    | some p => rw [e] at h; cases h; exact .inl ⟨p, (find_mem e).1, (find_mem e).2, rfl⟩
    | none => rw [e] at h; exact .inr (seen_at h)
  have hHok : HOk P w H s.heap := fun b u h => by
    rcases cases' h with ⟨p, hp, e, rfl⟩ | ⟨_, e1, e2⟩
    · rw [← e]; exact hT p hp
    · rw [e1, e2]
      exact ⟨ha, by rw [List.length_map]; exact hl, vs, _, rv, ha⟩
  have keepB : ∀ {b : Addr} {o : Obj}, s.heap.get? b = some o → H b = none → (hidT s.heap H).get? b = some o := fun e n => hidT_get e n
  -- what is tracked is a list or an empty table
  have noH : ∀ {b : Addr} {o : Obj}, s.heap.get? b = some o → (∀ xs n, o.data ≠ .seq xs n) → o.data ≠ .fields #[] → H b = none := fun {b o} e n1 n2 => by
    cases q : H b with
    | none => rfl
    | some u =>
      rcases cases' q with ⟨p, hp, ep, _⟩ | ⟨_, eb, _⟩
      · rw [← ep, hT p hp] at e; cases e; exact absurd rfl n2
      · rw [eb, ha] at e; cases e; exact absurd rfl (n1 _ _)
  have dictN : ∀ {b : Addr} {m : Str → Option Value}, s.heap.Ns b m → (hidT s.heap H).Ns b m := fun {b m} ⟨o, es, ep, e, d, r⟩ => by
    refine ⟨o, es, ep, keepB e (noH e (fun xs n z => ?_) fun z => ?_), d, r⟩
    · rw [d] at z; cases z
    · rw [d] at z; cases z
  have hKb : K.In (hidT s.heap H) := fun b o e => keepB (KX b o e) (by
    cases q : H b with
    | none => rfl
    | some u =>
      rcases cases' q with ⟨p, hp, ep, _⟩ | ⟨n, eb, _⟩
      · have := nT p hp; rw [ep, e] at this; cases this
      · rw [eb, n] at e; cases e)
  have TB : ∀ p ∈ ls, LamX.TabB (hidT s.heap H) mg p.c p.P := fun p hp => by
    refine ⟨?_, ?_, fun z => ?_⟩
    · obtain ⟨o, us, file, tf, flags, tg, inF, text, tt, e1, r1, r2, r3, rest⟩ := C p hp
      refine ⟨o, us, file, tf, flags, tg, inF, text, tt, keepB e1 (noH e1 (fun xs n z => ?_) fun z => ?_), r1, r2, r3, rest⟩
      · rw [r2] at z; cases z
      · rw [r2] at z; cases z; simp at r3
    · obtain ⟨bm, ob, b1, b2, b3, b4, b5, b6⟩ := hbm
      refine ⟨bm, ob, b1, b2, fun q => ?_, fun q => ?_, keepB b3 (noH b3 (fun xs n z => ?_) fun z => ?_), b4, b5, b6⟩
      · obtain ⟨o, es, ep, e, hd, _⟩ := hns
        rw [q, e] at b3
        cases b3
        rw [hd] at b6; cases b6
      · rw [q, hT p hp] at b3; cases b3; cases b6
      · rw [b6] at z; cases z
      · rw [b6] at z; cases z
    · obtain ⟨o, es, ep, e, hd, _⟩ := hns
      rw [z, hT p hp] at e
      cases e; cases hd
  have e0 : Env0 P w K mg (hidT s.heap H) callerA [] s H :=
    ⟨rfl, ⟨hKb, dictN hns, ⟨mb, dictN hb, hbb⟩, let ⟨mc, h1, h2⟩ := hlim; ⟨mc, dictN h1, h2⟩⟩, fun b o e => of_hidT e, Nat.le_of_eq (hidT_size _ _), trivial, fun b hb => (List.not_mem_nil hb).elim, hHok, .of_eq hg⟩
  generalize hGdef : markT ls (seen K a vs ns) = G
  have hG : ∀ b, G b = match ls.find? fun p => p.P == b with | some p => some (.tbl #[Value.str p.q 0]) | none => seen K a vs ns b := fun b => by rw [← hGdef]; rfl
  have gh : Ex G H := fun b o h n => by
    rw [hG] at h
    cases e : ls.find? fun p => p.P == b with
    | some p => rw [e] at h; cases h; exact absurd rfl (n _)
    | none => rw [e] at h; rw [hH, e]; exact h
  have tb : Tb G H := fun b ps h => by
    rw [hG] at h
    cases e : ls.find? fun p => p.P == b with
    | some p =>
      rw [e] at h; cases h
      refine ⟨_, _, rfl, ?_⟩
      obtain ⟨m1, m2⟩ := find_mem e
      rw [← m2]
      exact .nil (tbl p m1)
    | none => rw [e] at h; obtain ⟨_, _, z⟩ := seen_at h; cases z
  have mk : ∀ p ∈ ls.map fun p => (p.P, p.q), G p.1 = some (.tbl #[Value.str p.2 0]) := fun p hp => by
    obtain ⟨r, hr, rfl⟩ := List.mem_map.mp hp
    show G r.P = _
    rw [hG, find_one nd hr]
  have mk2 : ∀ b ps, G b = some (.tbl ps) → ∃ p ∈ ls.map fun p => (p.P, p.q), p.1 = b := fun b ps h => by
    rw [hG] at h
    cases e : ls.find? fun p => p.P == b with
    | some p => exact ⟨(p.P, p.q), List.mem_map.mpr ⟨p, (find_mem e).1, rfl⟩, (find_mem e).2⟩
    | none => rw [e] at h; obtain ⟨_, _, z⟩ := seen_at h; cases z
  have hSq : SqL K G a (ns.map V.int) := by
    cases hk : K.lookup a with
    | none => exact .inl (.inr ⟨{ cls := .type "list", data := .seq vs.toArray }, by rw [hG, fa0]; unfold seen; rw [hk]; exact if_pos rfl⟩)
    | some o =>
      have e := KX a o hk
      rw [ha] at e
      cases e
      exact .inr ⟨_, vs.toArray, _, hk, rfl, rfl, rfl, by rw [List.size_toArray, hi.length]; exact hl, by simpa using rv⟩
  have R : Rep ⟨K, ls.map fun p => (p.P, p.q), Tr H, G, H⟩ (Tr H) G H ([V.ref a].map some) [.dat (.scr ns)] := by
    refine ⟨gh, tb, ⟨fun _ h => h, .refl, mk, mk2⟩, fun _ h => h, rfl, fun i d h => ?_, fun i o h => ?_, fun i j o u p h => ?_⟩
    · match i, h with
      | 0, h => cases h; exact ⟨_, rfl, .scr hSq⟩
    · match i, h with
      | 0, h => cases h
    · match i, h with
      | 0, h => cases h
  obtain ⟨f', fd, hm', _, hbd, hfn⟩ := (hf _ hKb (dictN hns) TB).ex
  rw [hy] at hm'
  cases hm'
  have hbind := hbd s [.ref a] KX rfl
  refine codeAny_mono (hfn.run callerA [] s H ⟨[.ref a], []⟩ [.ref a] [.ref a] _ _ _ _ noX (fun v _ => v = .bl true) L2.E0 hr rfl e0 hbind (.cons rfl .nil) rfl R hF (fun v G' H' as' r S' RA rr _ q => ?_) lk_no) fun r s' h => ?_
  · subst q
    cases rr with
    | dat z => cases z; rfl
  · match r, h with
    | .ok (.ret u), ⟨v, H', os, bare, un, hok', r', q⟩ =>
      have q : v = .bl true := q
      subst q
      have r' : u = Value.bool true := r'
      subst r'
      have grown : ∀ p ∈ ls, ∃ more : Array Value, s'.heap.get? p.P = some { cls := .none, data := .fields more } := fun p hp => by
        obtain ⟨more, z⟩ := un.tbls p.P #[] (tbl p hp)
        exact ⟨_, hok' p.P _ z⟩
      have same : ∀ b o, (∀ p ∈ ls, p.P ≠ b) → s.heap.get? b = some o → s'.heap.get? b = some o := fun b o nb e => by
        cases q : H b with
        | none => exact un.keep b o e q (fun z => List.not_mem_nil z) (fun z => List.not_mem_nil z)
        | some u =>
          rcases cases' q with ⟨p, hp, ep, _⟩ | ⟨_, e1, e2⟩
          · exact absurd ep (nb p hp)
          · rw [e2] at q
            have z2 := un.frzs b _ _ q
            obtain ⟨g, _⟩ := hok' b _ z2
            rw [e1] at e ⊢
            rw [ha] at e; cases e
            rw [e1] at g
            exact g
      refine ⟨rfl, ⟨fun b o e => ?_, fun b o e => ?_⟩, os, bare⟩
      · by_cases hb : ∃ p ∈ ls, p.P = b
        · obtain ⟨p, hp, rfl⟩ := hb
          obtain ⟨more, hm⟩ := grown p hp
          rw [hT p hp] at e
          cases e
          exact .inr (.inl ⟨((C p hp).tab (hT p hp)).isCodeTable, rfl, #[], more, rfl, by rw [Array.empty_append]; exact hm⟩)
        · exact .inl (same b o (fun p hp z => hb ⟨p, hp, z⟩) e)
      · by_cases hb : ∃ p ∈ ls, p.P = b
        · obtain ⟨p, hp, rfl⟩ := hb
          obtain ⟨more, hm⟩ := grown p hp
          exact ⟨_, hm⟩
        · exact ⟨o, same b o (fun p hp z => hb ⟨p, hp, z⟩) e⟩
    | .ok .next, h => exact False.elim h
    | .ok .brk, h => exact False.elim h
    | .ok .cont, h => exact False.elim h
    | .error e, ⟨_, _, _, _, _, _, _, _, _, _, _, _, z⟩ => exact False.elim z
theorem law_walks {l : PySem.W.OpenLaw} {n k : Nat} {q : Program} {loose : List Str} {XP : (Str → Option Value) → Heap → Prop} {YP : World → Heap → Prop} {d : DefRec} {K : Params → PySem.W.Frag} {F : World → Fd} {x : Str} {ls : List Lm}
    (hn : l.most = some n) (hn2 : n ≤ sizeLine) (hdf : d.params.defaults = []) (hr : Room k callerA) (hY : ∀ (w : World) (h : Heap), YP w h → (K w.params).In h)
    (nd : (ls.map (·.P)).Nodup) (hrec : ∀ p ∈ ls, ((PyProof.Rows.recsOf q).find? fun e => e.name == p.x).isSome = true)
    (htab : ∀ (w : World), ∀ p ∈ ls, PySem.W.tabIn (K w.params) p.x = some (p.c, p.P) ∧ (K w.params).lookup p.P = none)
    (hf : ∀ (w : World) (mg : Str → Option Value) (h : Heap), (K w.params).In h → h.Ns mainGlobals mg →
      ∀ base : Heap, (K w.params).In base → base.Ns mainGlobals mg → (∀ p ∈ ls, LamX.TabB base mg p.c p.P) → Cal l.prog w (K w.params) (ls.map fun p => (p.P, p.q)) mg base k d.name [x] (F w))
    (hF : ∀ (w : World) (ns : List Int), ns.length ≤ n → (∀ z ∈ ns, Builtin.Int.intBits z ≤ 1048576) → F w [.dat (.scr ns)] (fun r _ => r = .dat (.bl true)) noX) :
    PySem.W.WalkO q loose XP YP l.row.toRowW d [] (fun f vs => PySem.call f vs) := by
  refine Att.attach_callB hn hdf fun w s₀ s₁ mg mb fa o pm cd doc a vs ns G Y ho hd hcd hmg hobj hints hlen hbits hg => ?_
  have KX := hY w _ Y
  have tabs : ∀ p ∈ ls, PySem.W.CodeHd s₁.heap p.c p.P ∧ s₁.heap.get? p.P = some { cls := .none, data := .fields #[] } := fun p hp => by
    obtain ⟨dr, hdr⟩ := Option.isSome_iff_exists.mp (hrec p hp)
    exact PySem.W.tab_of G.T KX hdr (htab w p hp).1
  exact law_runs KX G.T.g G.T.b G.T.builtins G.T.nolimit hg (fun p hp => (tabs p hp).2) (fun p hp => (htab w p hp).2) (fun p hp => (tabs p hp).1) nd G.T.bmain hobj hints (Nat.le_trans hlen hn2) hr (hf w mg _ KX G.T.g) hmg (hF w ns hlen hbits)
end DL

set_option Elab.async false
set_option linter.all false
set_option maxRecDepth 100000
set_option maxHeartbeats 2000000
namespace DL
open PySem L2
def pin (l : List Nat) : Nat → Bool := fun i => l.contains i
section
variable {X : CxT} {K : KT} {T : Nat → Bool} {e : Expr} {es : List Expr} {te : TE} {t : TA} {we : We} {wa : Wa} {x : Str} {p pos : Pos} {id Ty : String} {r : List V → Hp → VK → Prop} {D : Dn}
theorem de_callB (h : DB X (.builtin id) r D) (hm : X.mg x = none) (hv : bootBuiltins x = some (.builtin id)) (ha : DA X (e :: es) t wa) (hg : Gl X x := by rfl) (hn : x ≠ "__name__" := by decide) (hdb : (x == ("__debug__" : Str)) = false := by decide)
    (he : starEach (e :: es) X.env = (false, eval e X.env) :: starEach es X.env := by rfl) (hpl : (backTo pos (starEach es X.env)).any (·.1) = false := by rfl) : DE X (.Call (.Name x p) (e :: es) [] pos) (tCB r t) (wCB D wa) := ⟨pe_callB h.c hg hm hv ha.pa hn hdb he hpl, we_cb h.ok ha.wa⟩
theorem de_callT (h : DB X (.type Ty) r D) (hm : X.mg x = none) (hv : bootBuiltins x = some (.type Ty)) (ha : DA X (e :: es) t wa) (hg : Gl X x := by rfl) (hn : x ≠ "__name__" := by decide) (hdb : (x == ("__debug__" : Str)) = false := by decide)
    (he : starEach (e :: es) X.env = (false, eval e X.env) :: starEach es X.env := by rfl) (hpl : (backTo pos (starEach es X.env)).any (·.1) = false := by rfl) : DE X (.Call (.Name x p) (e :: es) [] pos) (tCB r t) (wCB D wa) := ⟨pe_callTy h.c hg hm hv ha.pa hn hdb he hpl, we_cb h.ok ha.wa⟩
/-- list(range(..)) -/
def wLstRg (wi : Wi) : We := fun ρ Q => wi ρ fun ds ρ1 => Q (.own (.lst ds)) ρ1
def wRg1 (we : We) : Sl → (Int → Int → Sl → Prop) → Prop := fun ρ Q => we ρ fun r ρ1 => match r with
  | .dat (.int n) => Q 0 n ρ1
  | _ => False
def wRg2 (wa wb : We) : Sl → (Int → Int → Sl → Prop) → Prop := fun ρ Q => wa ρ fun r ρ1 => match r with
  | .dat (.int i) => wb ρ1 fun r' ρ2 => match r' with
    | .dat (.int j) => Q i j ρ2
    | _ => False
  | _ => False
def WRg (K : KT) (te : L2.St → Hp → (Int → Int → Hp → Prop) → Prop) (w : Sl → (Int → Int → Sl → Prop) → Prop) : Prop := ∀ (B : Addr → Prop) (G H : Hp) (σ : L2.St) (ρ : Sl) (Q : Int → Int → Sl → Prop) (QV : Int → Int → Hp → Prop), Rep K B G H σ ρ → w ρ Q →
  (∀ i j G' H' ρ', Stp B G H G' H' → Rep K B G' H' σ ρ' → Q i j ρ' → QV i j H') → te σ H QV
structure DRg (X : CxT) (e : Expr) (te : L2.St → Hp → (Int → Int → Hp → Prop) → Prop) (w : Sl → (Int → Int → Sl → Prop) → Prop) : Prop where
  pr : PRg X e te
  wr : WRg X.K te w
theorem drg_1 {a : Expr} {ta : TE} {wA : We} (hm : X.mg "range" = none) (ha : DE X a ta wA) (hg : Gl X "range" := by rfl) (na : starEach [a] X.env = (false, eval a X.env) :: starEach [] X.env := by rfl) : DRg X (.Call (.Name "range" p) [a] [] pos) (tRg1 ta) (wRg1 wA) :=
  ⟨prg_1 hg hm ha.pe na, fun B G H σ ρ Q QV R q k => ha.we B G H σ ρ _ _ R q fun v G1 H1 ρ1 r S1 R1 rr q1 => by
    match r, rr, q1 with
    | .dat (.int n), .dat (.int _), q1 => exact ⟨n, rfl, k 0 n G1 H1 ρ1 S1 R1 q1⟩⟩
theorem drg_2 {a b : Expr} {ta tb : TE} {wA wB : We} (hm : X.mg "range" = none) (ha : DE X a ta wA) (hb : DE X b tb wB) (hg : Gl X "range" := by rfl) (na : starEach [a, b] X.env = (false, eval a X.env) :: starEach [b] X.env := by rfl) (nb : starEach [b] X.env = (false, eval b X.env) :: starEach [] X.env := by rfl) (hpl : (backTo pos (starEach [b] X.env)).any (·.1) = false := by rfl) : DRg X (.Call (.Name "range" p) [a, b] [] pos) (tRg2 ta tb) (wRg2 wA wB) :=
  ⟨prg_2 hg hm ha.pe hb.pe na nb hpl, fun B G H σ ρ Q QV R q k => ha.we B G H σ ρ _ _ R q fun v G1 H1 ρ1 r S1 R1 rr q1 => by
    match r, rr, q1 with
    | .dat (.int n), .dat (.int _), q1 =>
      refine hb.we B G1 H1 σ ρ1 _ _ R1 q1 fun v2 G2 H2 ρ2 r2 S2 R2 rr2 q2 => ?_
      match r2, rr2, q2 with
      | .dat (.int m), .dat (.int _), q2 => exact ⟨n, m, rfl, rfl, k n m G2 H2 ρ2 (S1.trans S2) R2 q2⟩⟩
def wListRg (w : Sl → (Int → Int → Sl → Prop) → Prop) : We := fun ρ Q => w ρ fun i j ρ1 => RgOk i j ∧ Q (.own (.lst (rgP i (j - i).toNat))) ρ1
def wTupRg (w : Sl → (Int → Int → Sl → Prop) → Prop) : We := fun ρ Q => w ρ fun i j ρ1 => RgOk i j ∧ Q (.dat (.tup (rgP i (j - i).toNat))) ρ1
theorem rp_rg {G : Hp} (i j : Int) : RpAll K G (rgV i j) (rgP i (j - i).toNat) := by
  unfold rgV rgP
  induction (List.range (j - i).toNat) with
  | nil => exact .nil
  | cons n ns ih => exact .cons (.int _) ih
theorem de_listRg {tr : L2.St → Hp → (Int → Int → Hp → Prop) → Prop} {wr : Sl → (Int → Int → Sl → Prop) → Prop} (hc : X.calm = true) (hm : X.mg "list" = none) (h : DRg X e tr wr) (hg : Gl X "list" := by rfl) (na : starEach [e] X.env = (false, eval e X.env) :: starEach [] X.env := by rfl) :
    DE X (.Call (.Name "list" p) [e] [] pos) (tLstRg tr) (wListRg wr) := ⟨pe_listRg hc hg hm h.pr na, fun B G H σ ρ Q QV R q k => h.wr B G H σ ρ _ _ R q fun i j G1 H1 ρ1 S1 R1 ⟨ho, q1⟩ =>
  ⟨ho, fun n hn => Gv.new (K := X.K) (Q := fun r => Q r ρ1) (fun v G' H' r S3 R3 rr3 q3 => k v G' H' ρ1 r (S1.trans S3) R3 rr3 q3) R1 hn (.lst (rp_rg i j)) q1⟩⟩
theorem de_tupRg {tr : L2.St → Hp → (Int → Int → Hp → Prop) → Prop} {wr : Sl → (Int → Int → Sl → Prop) → Prop} (hc : X.calm = true) (hm : X.mg "tuple" = none) (h : DRg X e tr wr) (hg : Gl X "tuple" := by rfl) (na : starEach [e] X.env = (false, eval e X.env) :: starEach [] X.env := by rfl) :
    DE X (.Call (.Name "tuple" p) [e] [] pos) (tTupRg tr) (wTupRg wr) := ⟨pe_tupRg hc hg hm h.pr na, fun B G H σ ρ Q QV R q k => h.wr B G H σ ρ _ _ R q fun i j G1 H1 ρ1 S1 R1 ⟨ho, q1⟩ =>
  ⟨ho, fun n hn => Gv.tup (K := X.K) (Q := fun r => Q r ρ1) (fun v G' H' r S3 R3 rr3 q3 => k v G' H' ρ1 r (S1.trans S3) R3 rr3 q3) R1 hn (rp_rg i j) q1⟩⟩
variable {a b c : Expr} {ta tb tc : TE} {wA wB' wC' : We} {op op' : CmpOp} {r1 r2 : R2} {D1 D2 : DL.D2}
def wChain (D1 D2 : DL.D2) (wA wB' wC' : We) : We := fun ρ Q => wA ρ fun ra ρ1 => (ra.cold = true ∨ ∃ d, ra.pd ρ1 = some d) ∧ wB' ρ1 fun rb ρ2 => (rb.cold = true ∨ ∃ d, rb.pd ρ2 = some d) ∧ look ra ρ2 fun x => look rb ρ2 fun y => D1 x y fun z => match z with
  | .dat (.bl true) => wC' ρ2 fun rc ρ3 => look rb ρ3 fun y' => look rc ρ3 fun w => D2 y' w fun z' => Q z' ρ3
  | .dat (.bl false) => Q (.dat (.bl false)) ρ2
  | _ => False
theorem de_cal {k n : Nat} {ps : List Str} {F : Fd} (C : Cal X.prog X.w X.cx.K X.T X.mg X.base k x ps F) (hr : Room k X.A) (hgd : X.A.guards = some []) (ha : DA X (e :: es) t wa) (hg : Gl X x := by rfl) (hdb : (x == ("__debug__" : Str)) = false := by decide) (he : starEach (e :: es) X.env = (false, eval e X.env) :: starEach es X.env := by rfl) (hpl : (backTo pos (starEach es X.env)).any (·.1) = false := by rfl) (hn : ps.length = n := by rfl) :
    DE X (.Call (.Name x p) (e :: es) [] pos) (tCallG X.cx.K X.T n F X.W t) (wCall n F X.Ξ wa) := by
  subst hn
  obtain ⟨f, fd, h1, h2, h3, h4⟩ := C.ex
  exact de_call h4 hr hgd hg h1 h2 h3 ha hdb he hpl
/-- a call that raises nothing -/
theorem de_calN {KF : PySem.W.Frag} {Ts : List (Addr × Str)} {k n : Nat} {ps : List Str} {F : Fd} (C : Cal X.prog X.w KF Ts X.mg X.base k x ps F) (hr : Room k X.A) (hgd : X.A.guards = some []) (ha : DA X (e :: es) t wa) (hK : X.cx.K = KF := by rfl) (hT : X.T = Ts := by rfl) (hg : Gl X x := by rfl) (hdb : (x == ("__debug__" : Str)) = false := by decide) (he : starEach (e :: es) X.env = (false, eval e X.env) :: starEach es X.env := by rfl) (hpl : (backTo pos (starEach es X.env)).any (·.1) = false := by rfl) (hn : ps.length = n := by rfl) :
    DE X (.Call (.Name x p) (e :: es) [] pos) (tCallG KF Ts n F (fun _ _ _ _ => False) t) (wCall n F noX wa) := by
  subst hn hK hT
  obtain ⟨f, fd, hm, hk, hb, F0⟩ := C.ex
  refine ⟨⟨fun pins s σ H Q I h => ?_⟩, we_call (K := X.K) lk_no ha.wa⟩
  refine wpAny_Call_Name_kw (ld_glob I hg hm ?_ hdb)
  refine PySem.W.callWith_K (h₀ := X.base) I.ok.mod.kin hk (thn (ha.pa.run pos pins s σ H _ I h) fun us s1 ⟨vs, H1, I1, r, q⟩ => ⟨I1.kIn, ?_⟩) he hpl
  obtain ⟨B, G, as, Q', Ξ, hl, R, hF, hk, hx⟩ := q
  have hb' := hb s1 us I1.kIn (by rw [List.append_nil, ← r.length]; exact hl)
  rw [List.append_nil] at hb'
  refine wpAny_call (codeAny_mono (F0.run X.A X.stack s1 H1 ⟨us, []⟩ us vs B G as Q' Ξ Q (fun _ _ _ => False) hr hgd I1.env0 hb' r hl R hF hk hx) fun r s' hq => ?_)
  match r, hq with
  | .ok (.ret u), hq => exact I1.after hq
  | .ok .next, hq => exact False.elim hq
  | .ok .brk, hq => exact False.elim hq
  | .ok .cont, hq => exact False.elim hq
  | .error e, ⟨_, _, _, _, _, _, _, _, _, _, _, _, z⟩ => exact False.elim z
/-- a call, with the written part, the tables and the wish by their own names -/
theorem de_calW {KF : PySem.W.Frag} {Ts : List (Addr × Str)} {W : WX} {Ξ : Xp} {k n : Nat} {ps : List Str} {F : Fd} (C : Cal X.prog X.w KF Ts X.mg X.base k x ps F) (hr : Room k X.A) (hgd : X.A.guards = some []) (ha : DA X (e :: es) t wa) (hK : X.cx.K = KF := by rfl) (hT : X.T = Ts := by rfl) (hW : X.W = W := by rfl) (hΞ : X.Ξ = Ξ := by rfl) (hg : Gl X x := by rfl) (hdb : (x == ("__debug__" : Str)) = false := by decide) (he : starEach (e :: es) X.env = (false, eval e X.env) :: starEach es X.env := by rfl) (hpl : (backTo pos (starEach es X.env)).any (·.1) = false := by rfl) (hn : ps.length = n := by rfl) :
    DE X (.Call (.Name x p) (e :: es) [] pos) (tCallG KF Ts n F W t) (wCall n F Ξ wa) := by
  subst hK hT hW hΞ
  exact de_cal C hr hgd ha hg hdb he hpl hn
/-- a def of the top; cd: its code object, where that matters -/
structure Dfn (KF : PySem.W.Frag) (mg : Str → Option Value) (x : Str) (st : Stmt) (cd : Option Addr) : Prop where
  ex : ∃ (f : Addr) (oc kV doc pm cdv ct : Value) (od an : Option Addr) (osl : Array (Option Value)), mg x = some (.ref f) ∧ PySem.W.keepIn KF (.ref f) = true ∧
    KF.lookup f = some ⟨oc, od, .func (PySem.W.fnOf x x (defArgs st) (defBody st) (defScope st) .none kV doc pm an cdv ct), osl⟩ ∧ PySem.W.codeIn KF cdv x = true ∧ ∀ c, cd = some c → cdv = .ref c
/-- a def, its text known -/
structure CalS (P : Program) (w : World) (KF : PySem.W.Frag) (Ts : List (Addr × Str)) (mg : Str → Option Value) (base : Heap) (k : Nat) (x : Str) (st : Stmt) (ps : List Str) (F : Fd) : Prop where
  ex : ∃ (f : Addr) (kV doc pm cdv ct : Value) (an : Option Addr), mg x = some (.ref f) ∧ PySem.W.keepIn KF (.ref f) = true ∧ FnG P w KF Ts mg base k f (PySem.W.fnOf x x (defArgs st) (defBody st) (defScope st) .none kV doc pm an cdv ct) ps F
theorem CalS.cal {P : Program} {w : World} {KF : PySem.W.Frag} {Ts : List (Addr × Str)} {mg : Str → Option Value} {base : Heap} {k : Nat} {x : Str} {st : Stmt} {ps : List Str} {F : Fd} (C : CalS P w KF Ts mg base k x st ps F)
    (h : ∀ (kV doc pm : Value) (an : Option Addr) (cdv ct : Value) (us : List Value), us.length = ps.length → bindArgs (PySem.W.fnOf x x (defArgs st) (defBody st) (defScope st) .none kV doc pm an cdv ct) ⟨us, []⟩ = pure (ps.zip us)) : Cal P w KF Ts mg base k x ps F := by
  obtain ⟨f, kV, doc, pm, cdv, ct, an, h1, h2, h3⟩ := C.ex
  exact ⟨f, _, h1, h2, .all (h kV doc pm an cdv ct), h3⟩
/-- .. called by the names of its parameters: ks, as they are written; pk: where each parameter's value stands among them -/
def pick {α : Type} (pk : List Nat) (xs : List α) : List α := pk.filterMap fun i => xs[i]?
structure CalW (P : Program) (w : World) (KF : PySem.W.Frag) (Ts : List (Addr × Str)) (mg : Str → Option Value) (base : Heap) (k : Nat) (x : Str) (ps ks : List Str) (pk : List Nat) (F : Fd) : Prop where
  ex : ∃ f fd, mg x = some (.ref f) ∧ PySem.W.keepIn KF (.ref f) = true ∧ (∀ (s : Shared) (ws : List Value), ws.length = ks.length → BindsTo s fd ⟨[], ks.zip ws⟩ (ps.zip (pick pk ws))) ∧ FnG P w KF Ts mg base k f fd ps F
theorem CalS.kw {P : Program} {w : World} {KF : PySem.W.Frag} {Ts : List (Addr × Str)} {mg : Str → Option Value} {base : Heap} {k : Nat} {x : Str} {st : Stmt} {ps ks : List Str} {pk : List Nat} {F : Fd} (C : CalS P w KF Ts mg base k x st ps F)
    (h : ∀ (kV doc pm : Value) (an : Option Addr) (cdv ct : Value) (ws : List Value), ws.length = ks.length → bindArgs (PySem.W.fnOf x x (defArgs st) (defBody st) (defScope st) .none kV doc pm an cdv ct) ⟨[], ks.zip ws⟩ = pure (ps.zip (pick pk ws))) : CalW P w KF Ts mg base k x ps ks pk F := by
  obtain ⟨f, kV, doc, pm, cdv, ct, an, h1, h2, h3⟩ := C.ex
  exact ⟨f, _, h1, h2, fun s ws hl => .of_eq (h kV doc pm an cdv ct ws hl), h3⟩
theorem cal_of {P : Program} {w : World} {KF : PySem.W.Frag} {Ts : List (Addr × Str)} {mg : Str → Option Value} {base : Heap} {st : Stmt} {cd : Option Addr} {N ps : List Str} {k : Nat} {wb : Xp → Ws} (D : Dfn KF mg x st cd) (S : FnScope N ps (defScope st))
    (hbody : ∀ (f : Addr) (cdv : Value) (hcd : ∀ c, cd = some c → cdv = .ref c) (A : Around) (outer : List PySem.Env) (s : Shared) (H : Hp) (E : XK) (B : Addr → Prop) (G : Hp) (Ξ : Xp) (lk : Lk KF B G H Ξ (fun cls d _ H' => E cls d H')), Room k (A.deeper (PyProof.Rows.envOfC x (defScope st) s.heap.objs.size f cdv)) → (A.deeper (PyProof.Rows.envOfC x (defScope st) s.heap.objs.size f cdv)).guards = some [] →
      ∃ t, DSs (cxT P w KF Ts mg base N x (defScope st) f cdv A outer s H E B G Ξ lk) T (defBody st) t (wb Ξ)) : CalS P w KF Ts mg base (k + 1) x st ps (mkF T N.length wb) := by
  obtain ⟨f, oc, kV, doc, pm, cdv, ct, od, an, osl, h1, h2, h3, h4, h5⟩ := D.ex
  exact ⟨f, kV, doc, pm, cdv, ct, an, h1, h2, fng_of h3 h4 S (hbody f cdv h5)⟩
/-- never come to -/
def wNever : Ws := fun _ _ => False
theorem ds_never {st : Stmt} : DS X T st tNever wNever := ⟨⟨fun _ _ _ _ _ _ h => h.elim⟩, fun _ _ _ _ _ _ _ _ _ _ q => q.elim⟩
end
end DL
namespace DL
open PySem L2
/-- a constant of the module -/
structure Const (KF : PySem.W.Frag) (mg : Str → Option Value) (x : Str) (d : PD) : Prop where
  ex : ∃ v u, mg x = some u ∧ RelV v u ∧ ∀ G, Rp KF G v d
/-- a constant's reading: its value, whatever stands for it -/
def tK (K : PySem.W.Frag) (d : PD) : TE := fun _ H Q => ∀ v, (∀ G, Rp K G v d) → Q v H
theorem de_const {X : CxT} {x : Str} {d : PD} {pos : Pos} (C : Const X.cx.K X.mg x d) (hg : Gl X x := by rfl) (hd : (x == ("__debug__" : Str)) = false := by decide) : DE X (.Name x pos) (tK X.cx.K d) (wC d) := by
  obtain ⟨v, u, h1, h2, h3⟩ := C.ex
  exact ⟨⟨fun _ _ _ H _ I h => ld_glob I hg h1 ⟨v, H, I, h2, h v h3⟩ hd⟩, fun B G H σ ρ Q QV R q k v' h' => k v' G H ρ _ .refl R (.dat (h' G)) q⟩
end DL

set_option Elab.async false
set_option linter.all false
set_option maxRecDepth 100000
set_option maxHeartbeats 2000000
namespace DL
open PySem L2
section
variable {X : CxT} {K : KT} {T : Nat → Bool} {a b c e : Expr} {ta tb tc te : TE} {wA wB' wC' we : We} {p p2 pos : Pos} {op op' : CmpOp} {r1 r2 : R2} {D1 D2 : DL.D2}
/-! ### a < b < c -/
theorem we_chain (h1 : Ok2 K r1 D1) (h2 : Ok2 K r2 D2) (ha : WE K ta wA) (hb : WE K tb wB') (hc : WE K tc wC') : WE K (tChain r1 r2 ta tb tc) (wChain D1 D2 wA wB' wC') := fun B G H σ ρ Q QV R q k =>
  ha B G H σ ρ _ _ R q fun v G1 H1 ρ1 ra S1 R1 rr1 ⟨c1, q1⟩ => by
    obtain ⟨G1', S1', R1', rr1', cc1, ec1⟩ := rr1.cool R1 c1
    refine hb B G1' H1 σ ρ1 _ _ R1' q1 fun u G2 H2 ρ2 rb S2 R2 rr2 ⟨c2, q2⟩ => ?_
    obtain ⟨G2', S2', R2', rr2', cc2, ec2⟩ := rr2.cool R2 c2
    obtain ⟨x, ex, q2⟩ := ok_some q2
    obtain ⟨y, ey, q2⟩ := ok_some q2
    have vx := (rr1'.stay (H' := H2) (ρ' := ρ2) cc1 (S2.g.trans S2'.g)).vw R2' ((ec1 ρ2).trans ex)
    have vy := rr2'.vw R2' ((ec2 ρ2).trans ey)
    have S := ((S1.trans S1').trans S2).trans S2'
    refine h1 B G2' H2 σ ρ2 v u x y _ _ R2' vx vy q2 fun z G3 H3 rz S3 R3 rr3 q3 => ?_
    match rz, rr3, q3 with
    | .dat (.bl true), .dat (.bl _), q3 =>
      refine ⟨true, rfl, ?_⟩
      rw [if_pos rfl]
      refine hc B G3 H3 σ ρ2 _ _ R3 q3 fun w G4 H4 ρ3 rc S4 R4 rr4 q4 => ?_
      obtain ⟨y', ey', q4⟩ := ok_some q4
      obtain ⟨w', ew', q4⟩ := ok_some q4
      have vy' := (rr2'.stay (H' := H4) (ρ' := ρ3) cc2 (S3.g.trans S4.g)).vw R4 ((ec2 ρ3).trans ey')
      refine h2 B G4 H4 σ ρ3 u w y' w' (fun r => Q r ρ3) _ R4 vy' (rr4.vw R4 ew') q4 fun z' G5 H5 rz' S5 R5 rr5 q5 => ?_
      exact k z' G5 H5 ρ3 rz' (((S.trans S3).trans S4).trans S5) R5 rr5 q5
    | .dat (.bl false), .dat (.bl _), q3 =>
      refine ⟨false, rfl, ?_⟩
      rw [if_neg Bool.false_ne_true]
      exact k _ G3 H3 ρ2 _ (S.trans S3) R3 (.dat (.bl false)) q3
theorem de_chain (h1 : DC X op r1 D1) (h2 : DC X op' r2 D2) (ha : DE X a ta wA) (hb : DE X b tb wB') (hc : DE X c tc wC') (hm : lastMarks [op, op'] [b, c] = false := by with_unfolding_all rfl) : DE X (.Compare a [op, op'] [b, c] pos) (tChain r1 r2 ta tb tc) (wChain D1 D2 wA wB' wC') := ⟨pe_chain h1.op h2.op ha.pe hb.pe hc.pe hm, we_chain h1.ok h2.ok ha.we hb.we hc.we⟩
theorem dt_chain (h1 : DC X op r1 D1) (h2 : DC X op' r2 D2) (ha : DE X a ta wA) (hb : DE X b tb wB') (hc : DE X c tc wC') (hm : lastMarks [op, op'] [b, c] = false := by with_unfolding_all rfl) : DT X (.Compare a [op, op'] [b, c] pos) (tTest (tChain r1 r2 ta tb tc)) (wB (wChain D1 D2 wA wB' wC')) := ⟨pt_chain h1.op h2.op ha.pe hb.pe hc.pe hm, wt_test (we_chain h1.ok h2.ok ha.we hb.we hc.we)⟩
/-! ### isinstance(x, T), T a built-in class -/
def PD.ty : PD → Option String
  | .non => some "NoneType"
  | .bl _ => some "bool"
  | .int _ => some "int"
  | .str _ => some "str"
  | .lst _ => some "list"
  | .scr _ => some "list"
  | .tup _ => some "tuple"
  | .dct _ => some "dict"
  | _ => none
theorem ty_of {G H : Hp} {v : V} {d : PD} {t : String} (e : Ex G H) (h : Vw K G H v d) (ht : d.ty = some t) : TyX K H v (.type t) := by
  cases d with
  | non => cases ht; rw [h.non]; exact .base .non
  | bl b => cases ht; rw [h.bl]; exact .base (.bl b)
  | int i => cases ht; rw [h.int]; exact .base (.int i)
  | str x => cases ht; rw [h.str]; exact .base (.str x)
  | lst xs => cases ht; obtain ⟨q, us, rfl, hq, _⟩ := h.lst e; exact .base (.lst hq)
  | scr ns =>
    cases ht
    obtain ⟨q, rfl, hq⟩ := h.scr e
    rcases hq with (hq | ⟨o, hq⟩) | ⟨o, its, n, hk, hc, _⟩
    · exact .base (.lst hq)
    · exact .base (.frz hq)
    · exact .kList hk hc
  | tup xs =>
    cases ht
    obtain ⟨q, us, rfl, hq, _⟩ := h.tup e
    rcases hq with (hq | ⟨o, hq⟩) | ⟨o, its, n, hk, hc, _⟩
    · exact .base (.tup hq)
    · exact .fTuple hq
    · exact .kTuple hk hc
  | dct kvs =>
    cases ht
    rcases h with h | ⟨q, ho, o, rfl, h1, h2, h3⟩
    · cases h with
      | dct hq _ => exact .base (.dK (e _ _ hq nt_dK))
    · cases h2 with
      | lst => cases h3
      | dK => exact .base (.dK h1)
  | ins => cases ht
  | err => cases ht
  | fn => cases ht
def isa (t T : String) : Bool := t == T || (t == "bool" && T == "int")
def kitsOk (T : String) : Bool := ["NoneType", "bool", "int", "str", "list", "tuple", "dict"].all fun t => decide (kitB t T = some (isa t T))
theorem kit_all {T : String} (h : kitsOk T = true) {d : PD} {t : String} (ht : d.ty = some t) : kitB t T = some (isa t T) := by
  have m : t ∈ ["NoneType", "bool", "int", "str", "list", "tuple", "dict"] := by
    cases d <;> first | (cases ht; done) | (cases ht; simp)
  exact of_decide_eq_true (List.all_eq_true.mp h t m)
def wIsi (T : String) (we : We) : We := fun ρ Q => we ρ fun r ρ1 => warm r ρ1 ∧ look r ρ1 fun d => ok d.ty fun t => Q (.dat (.bl (isa t T))) ρ1
def tIsi (K : PySem.W.Frag) (T : String) (te : TE) : TE := tCB (rIsi K) (tCons te (tCons (tC (.ty T)) tNil))
theorem we_isi {Ty : String} (hk : kitsOk Ty = true) (h : WE K te we) : WE K (tIsi K Ty te) (wIsi Ty we) := fun B G H σ ρ Q QV R q k =>
  h B G H σ ρ _ _ R q fun v G1 H1 ρ1 r S1 R1 rr ⟨_, q1⟩ => by
    obtain ⟨d, ed, q1⟩ := ok_some q1
    obtain ⟨t, et, q1⟩ := ok_some q1
    exact ⟨v, .ty Ty, .type t, .type Ty, _, rfl, .ty Ty, ty_of R1.gh (rr.vw R1 ed) et, kit_ty (kit_all hk et), k _ G1 H1 ρ1 _ S1 R1 (.dat (.bl _)) q1⟩
theorem de_isi {Ty : String} {x : Str} (hk : kitsOk Ty = true) (hm : X.mg "isinstance" = none) (hm2 : X.mg x = none) (hv : bootBuiltins x = some (.type Ty)) (ha : DE X a ta wA) (hg : Gl X "isinstance" := by rfl) (hg2 : Gl X x := by rfl) (hn : x ≠ "__name__" := by decide) (hdb : (x == ("__debug__" : Str)) = false := by decide)
    (hs : starEach (a :: [.Name x p2]) X.env = (false, eval a X.env) :: starEach [.Name x p2] X.env := by rfl) (hpl : (backTo pos (starEach [.Name x p2] X.env)).any (·.1) = false := by rfl) : DE X (.Call (.Name "isinstance" p) [a, .Name x p2] [] pos) (tIsi X.K Ty ta) (wIsi Ty wA) :=
  ⟨pe_callB call_isi hg hm PyProof.Rows.boot_isinstance (pa_cons ha.pe (pa_cons (pe_bltn hg2 hm2 hv rfl hn hdb) pa_nil) hs) (by decide) (by decide) hs hpl, we_isi hk ha.we⟩
/-! ### one test in a comprehension -/
theorem de_lcIf {elt iter cnd tg : Expr} {scope : Scope} {own : List (Str × Nat)} {wi : TI} {wI : Wi} {g : TG} {wg : Wg} {tt : TT} {wt : Wt} (hc : X.calm = true) (hN : X.N.Nodup) (hv : (own.map (·.2)).Nodup) (hi : DI X tg iter wi wI) (okb : BlkOk X.N X.env.scope scope own)
    (hg : ∀ (s : Shared) (H : Hp) (C : Addr) (cl : List (Str × Addr)) (fp : List Addr), DG (X.blk s H scope (compEnvC scope cl C X.env) fp) T0 tg g wg) (ho : GOnly (own.map (·.2)) g)
    (ht : ∀ (s : Shared) (H : Hp) (C : Addr) (cl : List (Str × Addr)) (fp : List Addr), DT (X.blk s H scope (compEnvC scope cl C X.env) fp) cnd tt wt)
    (he : ∀ (s : Shared) (H : Hp) (C : Addr) (cl : List (Str × Addr)) (fp : List Addr), DE (X.blk s H scope (compEnvC scope cl C X.env) fp) elt te we) (hs : ∀ x, foldedSetIterable iter X.env x = pure x := by intro _; rfl) :
    DE X (.ListComp elt [⟨tg, iter, [cnd], 0⟩] scope pos) (tLc wi g tt te (own.map (·.2))) (wLc (own.map (·.2)) wI wg wt we) :=
  de_lc hc hN hv hi okb hg ho (fun s H C cl fp => pts_one (ht s H C cl fp).pt) (ht X.s_0 X.H_0 0 [] []).wt he hs
/-! ### enumerate of a list -/
def enumP (xs : List PD) : List PD := xs.mapIdx fun i x => .tup [.int (i : Nat), x]
theorem fresh_tup {B : Addr → Prop} {G H : Hp} {σ : L2.St} {ρ : Sl} {p : Addr} {xs : List V} {ds : List PD} (R : Rep K B G H σ ρ) (hp : H p = none) (h : RpAll K G xs ds) : ∃ G', Stp B G H G' (upd H p (.tup xs)) ∧ Rep K B G' (upd H p (.tup xs)) σ ρ ∧ Rp K G' (.ref p) (.tup ds) := by
  refine Gv.tup (K := K) (B := B) (G := G) (H := H) (σ := σ) (ρ := ρ) (Q := fun r => r = .dat (.tup ds)) (QV := fun v H' => ∃ G', Stp B G H G' H' ∧ Rep K B G' H' σ ρ ∧ Rp K G' v (.tup ds)) (fun v G' H' r S R' rr q => ?_) R hp h rfl
  subst q
  cases rr with
  | dat z => exact ⟨G', S, R', z⟩
theorem it_enum {G0 : Hp} {q : Addr} {vs : List V} {ds : List PD} (hG : ∀ G H, Ex G0 G → Ex G H → SqL K H q vs) (r : RpAll K G0 vs ds) : ItOk K G0 (Ite K q) (enumP ds) := fun B σ ρ G H e R => by
  have hq := hG G H e R.gh
  have hl : (enumP ds).length = ds.length := by unfold enumP; rw [List.length_mapIdx]
  refine ⟨fun i hi => ⟨vs, hq, by rw [r.length, ← hl]; exact hi⟩, fun i d hd => ?_⟩
  unfold enumP at hd
  rw [List.getElem?_mapIdx] at hd
  cases hx : ds[i]? with
  | none => rw [hx] at hd; cases hd
  | some x =>
    rw [hx] at hd
    cases hd
    obtain ⟨v, hv, rv⟩ := r.get hx
    refine ⟨⟨vs, v, hq, hv⟩, fun y H' ⟨t, w, ey, ht, eH, hw⟩ => ?_⟩
    have := hw vs hq
    rw [hv] at this; cases this
    subst ey; subst eH
    exact fresh_tup R ht (.cons (.int _) (.cons (rv.mono e) .nil))
def wEnum (wa : Wa) : Wi := fun ρ Q => wa ρ fun rs ρ1 => frz rs ρ1 fun ds ρ2 => match ds with
  | [.lst xs] => Q (enumP xs) ρ2
  | [.scr ns] => Q (enumP (ns.map .int)) ρ2
  | _ => False
theorem wi_enum {t : TA} {wa : Wa} (h : WAa K t wa) : WIi K (iEnum K t) (wEnum wa) := fun B G H σ ρ Q QJ R q k =>
  h B G H σ ρ _ _ R q fun vs G1 H1 ρ1 rs S1 R1 rr q1 => by
    obtain ⟨⟨ds, ρ2⟩, e, q1⟩ := ok_some q1
    obtain ⟨G2, S2, R2, ra⟩ := frz_all R1 rr e
    match ds, ra, q1 with
    | [.lst xs], ra, q1 =>
      obtain ⟨w, ew, rw'⟩ := ra.one
      cases ew
      cases rw' with
      | lst hg r => exact ⟨_, _, rfl, SqL.of (R2.gh _ _ hg nt_lst), k _ G2 H1 ρ2 _ (S1.trans S2) R2 (it_enum (fun G' H' e e' => SqL.of (e' _ _ (e _ _ hg nt_lst) nt_lst)) r) q1⟩
    | [.scr ns], ra, q1 =>
      obtain ⟨w, ew, rw'⟩ := ra.one
      cases ew
      cases rw' with
      | scr hg => exact ⟨_, _, rfl, ex_l R2.gh hg, k _ G2 H1 ρ2 _ (S1.trans S2) R2 (it_enum (fun G' H' e e' => ex_l e' (ex_l e hg)) (rp_ints ns)) q1⟩
theorem di_enum {t : TA} {wa : Wa} {elts : List Expr} {kk : Nat} {tpos : Pos} (hm : X.mg "enumerate" = none) (ha : DA X [e] t wa) (hg : Gl X "enumerate" := by rfl) (hs : starEach [e] X.env = [(false, eval e X.env)] := by rfl) :
    DI X (.Tuple elts kk tpos) (.Call (.Name "enumerate" p) [e] [] pos) (iEnum X.K t) (wEnum wa) := ⟨pi_enum hg hm ha.pa hs, wi_enum ha.wa⟩
/-! ### zip of two lists, of two tuples -/
def zipP : List PD → List PD → List PD
  | x :: xs, y :: ys => .tup [x, y] :: zipP xs ys
  | _, _ => []
theorem zipP_get : ∀ {xs ys : List PD} {i : Nat} {d : PD}, (zipP xs ys)[i]? = some d → ∃ x y, xs[i]? = some x ∧ ys[i]? = some y ∧ d = .tup [x, y]
  | [], _, _, _, h => by simp [zipP] at h
  | _ :: _, [], _, _, h => by simp [zipP] at h
  | x :: xs, y :: ys, 0, d, h => by simp [zipP] at h; exact ⟨x, y, rfl, rfl, h.symm⟩
  | x :: xs, y :: ys, i + 1, d, h => by
    have h : (zipP xs ys)[i]? = some d := by simpa [zipP] using h
    obtain ⟨u, v, h1, h2, h3⟩ := zipP_get h
    exact ⟨u, v, by simpa using h1, by simpa using h2, h3⟩
theorem zipP_len : ∀ {xs ys : List PD} {i : Nat}, (zipP xs ys).length ≤ i → xs.length ≤ i ∨ ys.length ≤ i
  | [], _, _, _ => .inl (Nat.zero_le _)
  | _ :: _, [], _, _ => .inr (Nat.zero_le _)
  | x :: xs, y :: ys, 0, h => by simp [zipP] at h
  | x :: xs, y :: ys, i + 1, h => by
    have h : (zipP xs ys).length ≤ i := by simpa [zipP] using h
    rcases zipP_len h with z | z
    · exact .inl (by simpa using z)
    · exact .inr (by simpa using z)
theorem it_zip {G0 : Hp} {q q' : Addr} {vs ws : List V} {ds es : List PD} (hG : ∀ G H, Ex G0 G → Ex G H → SqL K H q vs ∧ SqL K H q' ws) (r : RpAll K G0 vs ds) (r' : RpAll K G0 ws es) : ItOk K G0 (Itz K q q') (zipP ds es) := fun B σ ρ G H e R => by
  obtain ⟨hq, hq'⟩ := hG G H e R.gh
  refine ⟨fun i hi => ⟨vs, ws, hq, hq', by rw [r.length, r'.length]; exact zipP_len hi⟩, fun i d hd => ?_⟩
  obtain ⟨x, y, hx, hy, rfl⟩ := zipP_get hd
  obtain ⟨v, hv, rv⟩ := r.get hx
  obtain ⟨w, hw, rw'⟩ := r'.get hy
  refine ⟨⟨vs, ws, v, w, hq, hq', hv, hw⟩, fun z H' ⟨t, x1, y1, ez, ht, eH, h1, h2⟩ => ?_⟩
  have e1 := h1 vs hq
  have e2 := h2 ws hq'
  rw [hv] at e1; cases e1
  rw [hw] at e2; cases e2
  subst ez; subst eH
  exact fresh_tup R ht (.cons (rv.mono e) (.cons (rw'.mono e) .nil))
end
end DL

set_option Elab.async false
set_option linter.all false
set_option maxRecDepth 100000
set_option maxHeartbeats 2000000
namespace DL
open PySem L2
/-! ### own errors, as values -/
/-- what the written part says of an error class at C, whose maker at fI is the one of its base -/
structure ErrC (K : PySem.W.Frag) (C fI : Addr) : Prop where
  oex : OexC K C
  xf : XfC K C
  no : PySem.W.findIn K (.ref C) "value" = some none
  cl : (PySem.W.clsIn K C).isSome = true
  hc : PySem.W.findIn K (.ref C) "__class__" = some (some (.builtin "object.__class__"))
  hn : PySem.W.specialIn K (.builtin "object.__class__") "__get__" = some (some (.builtin "getset_descriptor.__get__"))
  ht : PySem.W.takesIn K (.builtin "object.__class__") = some true
  hm : PySem.W.mroIn K C (.type "object") = some true
  iC : PySem.W.findIn K (.ref C) "__init__" = some (some (.ref fI))
  tI : PySem.W.typeIn K (.ref fI) = some (.type "function")
/-- the maker: self.value = value -/
def spErr (K : PySem.W.Frag) : Sp := fun vs H Q _ => ∃ (a C : Addr) (v : V), vs = [.ref a, v] ∧ OexC K C ∧ PySem.W.findIn K (.ref C) "value" = some none ∧ H a = some (exo a C none) ∧ ∀ d, H d = none → d ≠ a → Q .non (upd (upd H d (exd d [(("value" : Str), v)])) a (exo a C (some d)))
section
variable {X : CxT} {K : KT} {e : Expr} {te : TE} {we : We} {p pos : Pos} {x : Str} {C D fI : Addr}
theorem exo_inst {P : Program} {w : World} {H : Hp} {h : Heap} {a C d : Addr} {o od' : HO} {fs : List (Str × V)} (hok : HOk P w H h) (e : H a = some o) (ed : H d = some od') (t1 : ErrO a C d o) (t2 : ErrD d fs od') :
    ∃ (oe od : Obj), PySem.W.InstAt h a oe C (some od) ∧ ∀ n v, fs.lookup n = some v → ∃ u, PySem.W.lookIn n od = some (some u) ∧ RelV v u := by
  have h1 : ∃ (oe : Obj) (vs : Array Value), h.get? a = some oe ∧ Zc (.ref C) (some d) oe ∧ oe.data = .fields vs := by
    cases t1 with
    | made => obtain ⟨t, he⟩ := exo_at hok e; exact ⟨_, _, he, ⟨rfl, rfl⟩, rfl⟩
    | had =>
      have x : ObjOk P w H h a (.ext fun h => ∃ (oe : Obj) (vs : Array Value), h.get? a = some oe ∧ Zc (.ref C) (some d) oe ∧ oe.data = .fields vs) := hok a _ e
      exact x.1
  have h2 : ∃ mA, h.Ns1 d mA ∧ ∀ f, RelO (fs.lookup f) (mA f) := by
    cases t2 with
    | made => exact exd_at hok ed
    | had => exact hok d _ ed
  obtain ⟨oe, vs, hoe, ⟨z1, z2⟩, z3⟩ := h1
  obtain ⟨mA, hns, rel⟩ := h2
  obtain ⟨od, ho, hl⟩ := lookIn_ns hns
  refine ⟨_, od, ⟨hoe, z1, by unfold PySem.W.notCls; rw [z3], by rw [z2]; exact ho⟩, fun n v hv => ?_⟩
  obtain ⟨u, hu, ru⟩ := RelO.some_of (v := v) (o := mA n) (by rw [← hv]; exact rel n)
  exact ⟨u, by rw [hl, hu], ru⟩
/-! isinstance -/
def rIsErr (K : PySem.W.Frag) (fI : Addr) (cv : Value) : V → Hp → VK → Prop := fun x H Q => ∃ (a C d : Addr) (o od : HO) (fs : List (Str × V)) (b : Bool), x = .ref a ∧ H a = some o ∧ H d = some od ∧ ErrO a C d o ∧ ErrD d fs od ∧ ErrC K C fI ∧ PySem.W.kitOne K (.ref C) cv = some b ∧ Q (.bl b) H
theorem call_isErr {X : Cx} {cv : Value} {c : V} (hcv : ∀ u, RelV c u → u = cv) : CallR X (.builtin "isinstance") (fun xs H Q => ∃ x, xs = [x, c] ∧ rIsErr X.K fI cv x H Q) := by
  intro pins s σ H xs us Q I r h
  obtain ⟨x, rfl, a, C, d, o, od, fs, b, rfl, ha, hd, t1, t2, T, e, q⟩ := h
  cases r with
  | cons rx rr =>
    cases rr with
    | cons rt rr =>
      cases rr
      cases rx
      have ec := hcv _ rt
      subst ec
      obtain ⟨oe, od, J, _⟩ := exo_inst I.hok ha hd t1 t2
      exact PySem.W.kia_one (PySem.W.kitx_exc T.cl T.xf.ga T.xf.gg T.xf.exC T.hc T.hn T.ht T.hm) I.kIn J e (fun z => nomatch z) fun tk => ⟨.bl b, H, I.kept (t' := tk) fun _ _ z => z, rfl, q⟩
/-! isinstance, a value's class being an own one -/
def wIsE (cl : Nat → Addr) (n : Nat) (kb : Nat → Bool) (we : We) : We := fun ρ Q => we ρ fun r ρ1 => look r ρ1 fun d => match d with
  | .err C _ => ∃ i, i < n ∧ C = cl i ∧ Q (.dat (.bl (kb i))) ρ1
  | _ => False
def tIsE (K : PySem.W.Frag) (fI : Addr) (cv : Value) (c : V) (te : TE) : TE := tCB (fun xs H Q => ∃ x, xs = [x, c] ∧ rIsErr K fI cv x H Q) (tCons te (tCons (tC c) tNil))
theorem we_isE {cl : Nat → Addr} {n : Nat} {kb : Nat → Bool} {cv : Value} {c : V} (hk : ∀ i, i < n → ErrC K (cl i) fI ∧ PySem.W.kitOne K (.ref (cl i)) cv = some (kb i)) (h : WE K te we) : WE K (tIsE K fI cv c te) (wIsE cl n kb we) := fun B G H σ ρ Q QV R q k =>
  h B G H σ ρ _ _ R q fun v G1 H1 ρ1 r S1 R1 rr q1 => by
    obtain ⟨d, ed, q1⟩ := ok_some q1
    cases d with
    | err C u =>
      obtain ⟨i, hi, rfl, q1⟩ := q1
      obtain ⟨T, e⟩ := hk i hi
      rcases rr.vw R1 ed with hv | ⟨p, ho, o, _, _, h2, h3⟩
      · cases hv with
        | err a1 a2 t1 t2 a3 a4 => exact ⟨_, rfl, _, _, _, _, _, _, _, rfl, R1.gh _ _ a1 t1.nt, R1.gh _ _ a2 t2.nt, t1, t2, T, e, k _ G1 H1 ρ1 _ S1 R1 (.dat (.bl _)) q1⟩
      · cases h2 <;> cases h3
    | _ => exact q1.elim
theorem de_isE {cl : Nat → Addr} {n : Nat} {kb : Nat → Bool} {p2 : Pos} {a : Expr} (hm : X.mg "isinstance" = none) (hm2 : X.mg x = some (.ref D)) (hk : ∀ i, i < n → ErrC X.cx.K (cl i) fI ∧ PySem.W.kitOne X.cx.K (.ref (cl i)) (.ref D) = some (kb i)) (ha : DE X a te we) (hg : Gl X "isinstance" := by rfl) (hg2 : Gl X x := by rfl) (hdb : (x == ("__debug__" : Str)) = false := by decide)
    (hs : starEach (a :: [.Name x p2]) X.env = (false, eval a X.env) :: starEach [.Name x p2] X.env := by rfl) (hpl : (backTo pos (starEach [.Name x p2] X.env)).any (·.1) = false := by rfl) : DE X (.Call (.Name "isinstance" p) [a, .Name x p2] [] pos) (tIsE X.cx.K fI (.ref D) (.ref D) te) (wIsE cl n kb we) :=
  ⟨pe_callB (call_isErr (c := .ref D) (fun u h => h)) hg hm PyProof.Rows.boot_isinstance (pa_cons ha.pe (pa_cons (pe_glob hg2 hm2 rfl hdb) pa_nil) hs) (by decide) (by decide) hs hpl, we_isE hk ha.we⟩
theorem de_isEB {Ty : String} {cl : Nat → Addr} {n : Nat} {kb : Nat → Bool} {p2 : Pos} {a : Expr} (hm : X.mg "isinstance" = none) (hm2 : X.mg x = none) (hv : bootBuiltins x = some (.type Ty)) (hk : ∀ i, i < n → ErrC X.cx.K (cl i) fI ∧ PySem.W.kitOne X.cx.K (.ref (cl i)) (.type Ty) = some (kb i)) (ha : DE X a te we) (hg : Gl X "isinstance" := by rfl) (hg2 : Gl X x := by rfl) (hn : x ≠ "__name__" := by decide) (hdb : (x == ("__debug__" : Str)) = false := by decide)
    (hs : starEach (a :: [.Name x p2]) X.env = (false, eval a X.env) :: starEach [.Name x p2] X.env := by rfl) (hpl : (backTo pos (starEach [.Name x p2] X.env)).any (·.1) = false := by rfl) : DE X (.Call (.Name "isinstance" p) [a, .Name x p2] [] pos) (tIsE X.cx.K fI (.type Ty) (.ty Ty) te) (wIsE cl n kb we) :=
  ⟨pe_callB (call_isErr (c := .ty Ty) (fun u h => h)) hg hm PyProof.Rows.boot_isinstance (pa_cons ha.pe (pa_cons (pe_bltn hg2 hm2 hv rfl hn hdb) pa_nil) hs) (by decide) (by decide) hs hpl, we_isE hk ha.we⟩
/-! e.value -/
def tVal (K : PySem.W.Frag) (fI : Addr) (te : TE) : TE := fun σ H Q => te σ H fun x H1 => ∃ (a C d : Addr) (o od : HO) (fs : List (Str × V)) (v : V), x = .ref a ∧ H1 a = some o ∧ H1 d = some od ∧ ErrO a C d o ∧ ErrD d fs od ∧ ErrC K C fI ∧ fs.lookup ("value" : Str) = some v ∧ Q v H1
theorem pe_val (he : PE X e te) (hb : attributeBase e "value" X.env (eval e X.env) = eval e X.env := by rfl) : PE X (.Attribute e "value" pos) (tVal X.cx.K fI te) := by
  refine ⟨fun pins s σ H Q I h => ?_⟩
  refine attr_of hb (thn (he.run pins s σ H _ I h) fun u s1 hh => ?_)
  obtain ⟨x, H1, I1, rx, a, C, d, o, od, fs, v, rfl, ea, ed, t1, t2, T, l, q⟩ := hh
  obtain rfl : u = Value.ref a := rx
  obtain ⟨oe, od, J, hl⟩ := exo_inst I1.hok ea ed t1 t2
  obtain ⟨u, hu, ru⟩ := hl _ _ l
  exact HandSPX.exc_get I1.kIn J T.xf.ga T.xf.gg T.xf.exC (PySem.W.findObj_own T.xf.hdC T.no rfl hu) (handed_of ru) ⟨v, H1, I1.tok _, ru, q⟩
def wVal (cl : Nat → Addr) (n : Nat) (we : We) : We := fun ρ Q => we ρ fun r ρ1 => look r ρ1 fun d => match d with
  | .err C u => (∃ i, i < n ∧ C = cl i) ∧ Q (.dat u) ρ1
  | _ => False
theorem we_val {cl : Nat → Addr} {n : Nat} (hk : ∀ i, i < n → ErrC K (cl i) fI) (h : WE K te we) : WE K (tVal K fI te) (wVal cl n we) := fun B G H σ ρ Q QV R q k =>
  h B G H σ ρ _ _ R q fun v G1 H1 ρ1 r S1 R1 rr q1 => by
    obtain ⟨d, ed, q1⟩ := ok_some q1
    cases d with
    | err C u =>
      obtain ⟨⟨i, hi, rfl⟩, q1⟩ := q1
      rcases rr.vw R1 ed with hv | ⟨p, ho, o, _, _, h2, h3⟩
      · cases hv with
        | err a1 a2 t1 t2 a3 a4 => exact ⟨_, _, _, _, _, _, _, rfl, R1.gh _ _ a1 t1.nt, R1.gh _ _ a2 t2.nt, t1, t2, hk i hi, a3, k _ G1 H1 ρ1 _ S1 R1 (.dat a4) q1⟩
      · cases h2 <;> cases h3
    | _ => exact q1.elim
theorem de_val {cl : Nat → Addr} {n : Nat} (hk : ∀ i, i < n → ErrC X.cx.K (cl i) fI) (ha : DE X e te we) (hb : attributeBase e "value" X.env (eval e X.env) = eval e X.env := by rfl) : DE X (.Attribute e "value" pos) (tVal X.cx.K fI te) (wVal cl n we) := ⟨pe_val ha.pe hb, we_val hk ha.we⟩
/-! C(e) -/
def tMkE (C : Addr) (ta : TA) : TE := fun σ H Q => ta σ H fun vs H1 => ∃ v, vs = [v] ∧ ∀ a d, H1 a = none → H1 d = none → d ≠ a → Q (.ref a) (upd (upd H1 d (exd d [(("value" : Str), v)])) a (exo a C (some d)))
theorem upd_thrice {H : Hp} {a d : Addr} {x y z : HO} (h : d ≠ a) : upd (upd (upd H a x) d y) a z = upd (upd H d y) a z := by
  funext b
  by_cases hb : b = a
  · subst hb; rw [upd_same, upd_same]
  · rw [upd_ne hb, upd_ne hb]
    by_cases hd : b = d
    · subst hd; rw [upd_same, upd_same]
    · rw [upd_ne hd, upd_ne hd, upd_ne hb]
theorem pe_mk {k : Nat} {fd : FuncData} {ta : TA} (T : ErrC X.cx.K C fI) (F1 : FnOk X.prog X.w X.K X.mg X.base L2.CX0 k fI fd ["self", "value"] (spErr X.cx.K)) (hr : Room (k + 1) X.A) (hb : Binds X.K fd ["self", "value"] []) (hm : X.mg x = some (.ref C)) (ha : PA X [e] ta) (hg : Gl X x := by rfl)
    (hdb : (x == ("__debug__" : Str)) = false := by decide) (he : starEach (e :: []) X.env = (false, eval e X.env) :: starEach [] X.env := by rfl) (hpl : (backTo pos (starEach [] X.env)).any (·.1) = false := by rfl) : PE X (.Call (.Name x p) [e] [] pos) (tMkE C ta) := by
  refine ⟨fun pins s σ H Q I h => ?_⟩
  obtain ⟨nm, q, N, bs, bm, sn, sub, ab, col, dd, k0, k1, k2, k3, k5, hC, hbm⟩ := T.oex.cls
  refine wpAny_Call_Name_kw (ld_glob I hg hm ?_ hdb)
  refine PySem.W.callWith_K (h₀ := X.base) I.ok.mod.kin T.oex.kC (thn (ha.run pos pins s σ H _ I h) fun us s1 ⟨vs, H1, I1, r1, v, ev, q1⟩ => ⟨I1.kIn, ?_⟩) he hpl
  subst ev
  show wpAny _ _ (call (.ref C) us) _ _ _
  obtain ⟨hp, g, dr, tk, os⟩ := s1
  have hsz : hp.objs.size ≤ hp.objs.size + 1 := Nat.le_succ _
  have hn : H1 (hp.objs.size + 1) = none := I1.hok.fresh hsz
  have kk : ∀ b o, hp.get? b = some o → ((hp.push (PySem.W.kdv_tup us)).push (PySem.HandSPX.excO C hp.objs.size)).get? b = some o := fun b o e => Heap.get?_push_of_some _ (Heap.get?_push_of_some _ e)
  have hget : ((hp.push (PySem.W.kdv_tup us)).push (PySem.HandSPX.excO C hp.objs.size)).get? (hp.objs.size + 1) = some (PySem.HandSPX.excO C hp.objs.size) := by heap_get
  have I2 : Inv X pins σ (upd H1 (hp.objs.size + 1) (exo (hp.objs.size + 1) C none)) ⟨(hp.push (PySem.W.kdv_tup us)).push (PySem.HandSPX.excO C hp.objs.size), g, dr, tk, os⟩ :=
    I1.laid (t' := tk) (a := hp.objs.size + 1) (o := exo (hp.objs.size + 1) C none) (h' := (hp.push (PySem.W.kdv_tup us)).push (PySem.HandSPX.excO C hp.objs.size)) kk hsz (exo_ok hget)
  have r2 : Vals [V.ref (hp.objs.size + 1), v] (Value.ref (hp.objs.size + 1) :: us) := .cons rfl r1
  have hl1 : us.length = 1 := (Paired.length r1).symm
  have hl : (Value.ref (hp.objs.size + 1) :: us).length = (["self", "value"] : List Str).length := by
    rw [List.length_cons, hl1]; rfl
  have hus : us.length ≤ sizeLine := by
    rw [hl1, sizeLine_eq]
    omega
  have hq : spErr X.cx.K [V.ref (hp.objs.size + 1), v] (upd H1 (hp.objs.size + 1) (exo (hp.objs.size + 1) C none)) (fun u H2 => u = .non ∧ Q (.ref (hp.objs.size + 1)) H2) L2.E0 := by
    refine ⟨_, C, v, rfl, T.oex, T.no, upd_same, fun d hd hda => ⟨rfl, ?_⟩⟩
    rw [upd_ne hda] at hd
    rw [upd_thrice hda]
    exact q1 _ d hn hd hda
  have hb' := hb ⟨(hp.push (PySem.W.kdv_tup us)).push (PySem.HandSPX.excO C hp.objs.size), g, dr, tk, os⟩ (Value.ref (hp.objs.size + 1) :: us) I2.kIn (by rw [List.append_nil]; exact hl)
  rw [List.append_nil] at hb'
  refine wpAny_call (PySem.HandSPX.call_own F.excBase_ValueError (fun Y => PySem.HandSPX.refsVE_contains Y bm hbm) (I1.kIn _ _ hC) (PySem.W.looks_findIn I1.kIn T.iC) (fun self => PySem.W.bind_fn I1.kIn self T.tI) hus
    (codeAny_mono (F1.run _ X.stack _ _ ⟨Value.ref (hp.objs.size + 1) :: us, []⟩ (Value.ref (hp.objs.size + 1) :: us) _ _ L2.E0 (hr.make C us []) (I2.env0.make C us []) hb' r2 hq) fun r s' hq' => ?_))
  match r, hq' with
  | .ok (.ret u), hq' =>
    obtain ⟨v', H', J, rv, ev, q2⟩ := I2.after hq'
    subst ev
    exact ⟨rv, .ref (hp.objs.size + 1), H', J, rfl, q2⟩
  | .ok .next, hq' => exact False.elim hq'
  | .ok .brk, hq' => exact False.elim hq'
  | .ok .cont, hq' => exact False.elim hq'
  | .error e, hq' => exact False.elim hq'
/-- a new thing that does not change -/
theorem rep_add {B : Addr → Prop} {G H : Hp} {σ : L2.St} {ρ : Sl} (R : Rep K B G H σ ρ) {p : Addr} (hp : H p = none) {o : HO} (nt : Nt o) : Stp B G H (upd G p o) (upd H p o) ∧ Rep K B (upd G p o) (upd H p o) σ ρ := by
  have gp : G p = none := R.gh.free R.tb hp
  have nb : ¬ B p := fun z => (R.bh p z).no hp
  have e : Ex G (upd G p o) := Ex.new gp
  have S : Stp B G H (upd G p o) (upd H p o) := ⟨e, fun a ps h => by rw [upd_ne (ne_of_none h gp)]; exact h, fun a ps h => mark_old nt h, fun a u hb h _ => by rw [upd_ne (nb_ne nb hb)]; exact h, fun a _ hb _ _ => upd_ne (nb_ne nb hb)⟩
  refine ⟨S, R.gh.both gp, (R.tb.new hp).mark nt, R.z.step S, fun a hb => ?_, R.len, fun i d hi => ?_, fun i u hi => ?_, R.sep⟩
  · exact (R.bh a hb).upd (nb_ne nb hb)
  · obtain ⟨v, h1, h2⟩ := R.dat i d hi
    exact ⟨v, h1, h2.mono e⟩
  · obtain ⟨q, hq, h1, h2, h3, h4, h5⟩ := R.own i u hi
    have z := ne_of_none h2 hp
    exact ⟨q, hq, h1, by rw [upd_ne z]; exact h2, by rw [upd_ne z]; exact h3, h4, h5.mono e⟩
def wMk (C : Addr) (wa : Wa) : We := fun ρ Q => wa ρ fun rs ρ1 => frz rs ρ1 fun ds ρ2 => match ds with
  | [d] => Q (.dat (.err C d)) ρ2
  | _ => False
theorem we_mk {ta : TA} {wa : Wa} (h : WAa K ta wa) : WE K (tMkE C ta) (wMk C wa) := fun B G H σ ρ Q QV R q k =>
  h B G H σ ρ _ _ R q fun vs G1 H1 ρ1 rs S1 R1 rr q1 => by
    obtain ⟨⟨ds, ρ2⟩, e, q1⟩ := ok_some q1
    obtain ⟨G2, S2, R2, ra⟩ := frz_all R1 rr e
    match ds, ra, q1 with
    | [d], ra, q1 =>
      obtain ⟨v, ev, rv⟩ := ra.one
      refine ⟨v, ev, fun a dd ha hd hda => ?_⟩
      obtain ⟨S3, R3⟩ := rep_add R2 hd (o := exd dd [(("value" : Str), v)]) nt_ext
      obtain ⟨S4, R4⟩ := rep_add R3 (p := a) (by rw [upd_ne (Ne.symm hda)]; exact ha) (o := exo a C (some dd)) nt_ext
      exact k _ _ _ ρ2 _ (((S1.trans S2).trans S3).trans S4) R4 (.dat (.err upd_same (by rw [upd_ne hda]; exact upd_same) .made .made (by simp [List.lookup]) ((rv.mono S3.g).mono S4.g))) q1
/-- an error class that can be called by its name -/
structure Erc (P : Program) (w : World) (K : PySem.W.Frag) (mg : Str → Option Value) (base : Heap) (k : Nat) (x : Str) (C fI : Addr) : Prop where
  ex : ∃ fd, mg x = some (.ref C) ∧ ErrC K C fI ∧ FnOk P w K mg base L2.CX0 k fI fd ["self", "value"] (spErr K) ∧ Binds K fd ["self", "value"] []
theorem de_mk {k : Nat} {ta : TA} {wa : Wa} (E : Erc X.prog X.w X.cx.K X.mg X.base k x C fI) (hr : Room (k + 1) X.A) (ha : DA X [e] ta wa) (hg : Gl X x := by rfl)
    (hdb : (x == ("__debug__" : Str)) = false := by decide) (he : starEach (e :: []) X.env = (false, eval e X.env) :: starEach [] X.env := by rfl) (hpl : (backTo pos (starEach [] X.env)).any (·.1) = false := by rfl) : DE X (.Call (.Name x p) [e] [] pos) (tMkE C ta) (wMk C wa) := by
  obtain ⟨fd, h1, h2, h3, h4⟩ := E.ex
  exact ⟨pe_mk h2 h3 hr h4 h1 ha.pa hg hdb he hpl, we_mk ha.wa⟩
end
end DL

set_option Elab.async false
set_option linter.all false
set_option maxRecDepth 100000
set_option maxHeartbeats 2000000
namespace DL
open PySem L2
section
variable {X : CxT} {K : KT} {e : Expr} {es : List Expr} {te : TE} {t : TA} {we : We} {wa : Wa} {p pos apos cpos : Pos} {x : Str}
/-! ### a call to which a new thing of one's own is handed -/
def wCallO (F : Fd) (Ξ : Xp) (we : We) : We := fun ρ Q => we ρ fun r ρ1 => match r with
  | .own o => F [.own o] (fun r' _ => Q r' ρ1) Ξ
  | _ => False
theorem we_callO {F : Fd} {Ξ : Xp} {W : WX} (lk : Lk K.F K.B0 K.G0 K.H0 Ξ W) (he : WE K te we) : WE K (tCallG K.F K.T 1 F W (tCons te tNil)) (wCallO F Ξ we) := fun B G H σ ρ Q QV R q k =>
  he B G H σ ρ _ _ R q fun v G1 H1 ρ1 r S1 R1 rr q1 => by
    cases rr with
    | dat z => exact q1.elim
    | bor z => exact q1.elim
    | own h1 h2 h3 h4 h5 =>
      rename_i pa ho o
      have BB : ∀ a, B a → Tr H1 a ∧ a ≠ pa := fun a hb => ⟨R1.bh a hb, fun z => h3 (z ▸ hb)⟩
      have R' : Rep (K.at (fun a => Tr H1 a ∧ a ≠ pa) G1 H1) (fun a => Tr H1 a ∧ a ≠ pa) G1 H1 ([V.ref pa].map some) [.own o] := by
        refine ⟨R1.gh, R1.tb, R1.z.new, fun a h => h.1, rfl, fun i d h => ?_, fun i u h => ?_, fun i j u u' q a b c d => ?_⟩
        · match i, h with
          | 0, h => cases h
        · match i, h with
          | 0, h => cases h; exact ⟨pa, ho, rfl, h1, h2, fun z => z.2 rfl, h4⟩
        · match i, j, a, b with
          | 0, 0, _, _ => rfl
      refine ⟨_, G1, [.own o], fun r as => Q r ρ1, Ξ, rfl, R', q1, fun v' G' H' as' r' S' RA rv hf q2 => ?_, lk_call R1.z BB lk⟩
      have slot : ∀ (i : Nat) (u : OD), ρ1[i]? = some (SD.own u) → ∃ q hq, σ[i]? = some (some (V.ref q)) ∧ H1 q = some hq ∧ (Tr H1 q ∧ q ≠ pa) ∧ G1 q = none ∧ ¬ B q ∧ RO K G1 hq u := fun i u hi => by
        obtain ⟨q, hq, w1, w2, w3, w4, w5⟩ := R1.own i u hi
        exact ⟨q, hq, w1, w2, ⟨⟨_, w2, w5.nt⟩, fun z => h5 i u hi (by rw [w1, z])⟩, w3, w4, w5⟩
      have Rb : Rep K B G' H' σ ρ1 := by
        refine ⟨RA.gh, RA.tb, R1.z.step (S'.weak BB), fun a hb => RA.bh a (BB a hb), R1.len, fun i d hi => ?_, fun i u hi => ?_, R1.sep⟩
        · obtain ⟨w, w1, w2⟩ := R1.dat i d hi
          exact ⟨w, w1, w2.mono S'.g⟩
        · obtain ⟨q, hq, w1, w2, hB, w3, w4, w5⟩ := slot i u hi
          exact ⟨q, hq, w1, S'.h q hq hB w2 w5.nt, (S'.n q hq hB w2 w5.ow).trans w3, w4, w5.mono S'.g⟩
      refine k v' G' H' ρ1 r' (S1.trans (S'.weak BB)) Rb ?_ q2
      cases rv with
      | dat z => exact .dat z
      | bor z => cases hf
      | own g1 g2 g3 g4 g5 =>
        refine .own g1 g2 (fun hb => g3 (BB _ hb)) g4 fun i u hi hz => ?_
        obtain ⟨q, hq, w1, w2, hB, w3, w4, w5⟩ := slot i u hi
        rw [hz] at w1; cases w1
        exact g3 hB
/-- .. that raises nothing -/
theorem de_calO {KF : PySem.W.Frag} {Ts : List (Addr × Str)} {k : Nat} {s1 : Str} {F : Fd} (C : Cal X.prog X.w KF Ts X.mg X.base k x [s1] F) (hr : Room k X.A) (hgd : X.A.guards = some []) (ha : DE X e te we) (hK : X.cx.K = KF := by rfl) (hT : X.T = Ts := by rfl) (hg : Gl X x := by rfl) (hdb : (x == ("__debug__" : Str)) = false := by decide) (he : starEach (e :: []) X.env = (false, eval e X.env) :: starEach [] X.env := by rfl) (hpl : (backTo pos (starEach [] X.env)).any (·.1) = false := by rfl) :
    DE X (.Call (.Name x p) [e] [] pos) (tCallG KF Ts 1 F (fun _ _ _ _ => False) (tCons te tNil)) (wCallO F noX we) := by
  subst hK hT
  obtain ⟨f, fd, hm, hk, hb, F0⟩ := C.ex
  refine ⟨⟨fun pins s σ H Q I h => ?_⟩, we_callO (K := X.K) lk_no ha.we⟩
  refine wpAny_Call_Name_kw (ld_glob I hg hm ?_ hdb)
  refine PySem.W.callWith_K (h₀ := X.base) I.ok.mod.kin hk (thn ((pa_cons ha.pe pa_nil he).run pos pins s σ H _ I h) fun us s1 ⟨vs, H1, I1, r, q⟩ => ⟨I1.kIn, ?_⟩) he hpl
  obtain ⟨B, G, as, Q', Ξ, hl, R, hF, hk, hx⟩ := q
  have hb' := hb s1 us I1.kIn (by rw [List.append_nil, ← r.length]; exact hl)
  rw [List.append_nil] at hb'
  refine wpAny_call (codeAny_mono (F0.run X.A X.stack s1 H1 ⟨us, []⟩ us vs B G as Q' Ξ Q (fun _ _ _ => False) hr hgd I1.env0 hb' r hl R hF hk hx) fun r s' hq => ?_)
  match r, hq with
  | .ok (.ret u), hq => exact I1.after hq
  | .ok .next, hq => exact False.elim hq
  | .ok .brk, hq => exact False.elim hq
  | .ok .cont, hq => exact False.elim hq
  | .error e, ⟨_, _, _, _, _, _, _, _, _, _, _, _, z⟩ => exact False.elim z
/-! ### methods of lists that give a number -/
abbrev Dm := PD → List PD → (Rz → Prop) → Prop
def OkM (K : KT) (r : V → List V → Hp → VK → Prop) (D : Dm) : Prop := ∀ (B : Addr → Prop) (G H : Hp) (σ : L2.St) (ρ : Sl) (x : V) (dx : PD) (xs : List V) (ds : List PD) (Q : Rz → Prop) (QV : VK),
  Rep K B G H σ ρ → Vw K G H x dx → VwAll K G H xs ds → D dx ds Q → Gv K B G H σ ρ Q QV → r x xs H QV
def wM (D : Dm) (we : We) (wa : Wa) : We := fun ρ Q => we ρ fun r ρ1 => ok (r.pd ρ1) fun d => (∃ xs, d = .lst xs) ∧ wa ρ1 fun rs ρ2 => look r ρ2 fun d' => looks rs ρ2 fun ds => D d' ds fun r' => Q r' ρ2
theorem we_m {r : V → List V → Hp → VK → Prop} {D : Dm} (h : OkM K r D) (he : WE K te we) (ha : WAa K t wa) : WE K (tBM K "list" r te t) (wM D we wa) := fun B G H σ ρ Q QV R q k =>
  he B G H σ ρ _ _ R q fun v G1 H1 ρ1 ra S1 R1 rr1 q1 => by
    obtain ⟨d, ed, ⟨xs, hxs⟩, q1⟩ := ok_some q1
    obtain ⟨G1', S1', R1', rr1', cc, ec⟩ := rr1.cool R1 (.inr ⟨d, ed⟩)
    subst hxs
    obtain ⟨a, us, rfl, hp, _⟩ := (rr1'.vw R1' ((ec ρ1).trans ed)).lst R1'.gh
    refine ⟨Or.inl ⟨rfl, _, SqL.of hp⟩, ?_⟩
    refine ha B G1' H1 σ ρ1 _ _ R1' q1 fun vs G2 H2 ρ2 rs S2 R2 rr2 q2 => ?_
    obtain ⟨x, ex, q2⟩ := ok_some q2
    obtain ⟨ds, eds, q2⟩ := ok_some q2
    exact h B G2 H2 σ ρ2 _ x vs ds (fun r => Q r ρ2) QV R2 ((rr1'.stay cc S2.g).vw R2 ((ec ρ2).trans ex)) (rr2.vw R2 eds) q2 fun w G3 H3 res S3 R3 rr3 q3 => k w G3 H3 ρ2 res (((S1.trans S1').trans S2).trans S3) R3 rr3 q3
def dIndex : Dm := fun d ds k => match d, ds with
  | .lst ys, [y] => y.flat = true ∧ ys.all PD.flat = true ∧ ok (ys.findIdx? fun z => PyData.eqv z.py y.py) fun j => k (.dat (.int (j : Nat)))
  | _, _ => False
theorem okm_index : OkM K (rIndex K) dIndex := by
  intro B G H σ ρ x dx xs ds Q QV R vx vs q k
  match dx, ds, vs, q with
  | .lst ys, [y], .cons vy .nil, ⟨fy, fys, q⟩ =>
    obtain ⟨j, ej, q⟩ := ok_some q
    obtain ⟨a, us, rfl, hp, rs⟩ := vx.lst R.gh
    have ry := flat_vw vy fy
    obtain ⟨hl, hb, hno⟩ := List.findIdx?_eq_some_iff_getElem.mp ej
    have flatAt : ∀ {m : Nat} {d : PD}, ys[m]? = some d → d.flat = true := fun {m d} h => List.all_eq_true.mp fys d (List.mem_of_getElem? h)
    obtain ⟨z, hz, rz⟩ := rs.get (List.getElem?_eq_getElem hl)
    refine ⟨a, us, _, j, z, rfl, rfl, SqL.of hp, flat_of ry fy, flats_of rs fys, hz, by rw [eqV_py rz ry (flatAt (List.getElem?_eq_getElem hl)) fy]; exact hb, fun m z' hm hz' => ?_, k.dat R (.int _) q⟩
    have hml : m < ys.length := Nat.lt_trans hm hl
    obtain ⟨z2, hz2, rz2⟩ := rs.get (List.getElem?_eq_getElem hml)
    rw [hz'] at hz2; cases hz2
    rw [eqV_py rz2 ry (flatAt (List.getElem?_eq_getElem hml)) fy]
    have := hno m hm
    simpa using this
/-- count, of bools -/
def rCountB : V → List V → Hp → VK → Prop := fun x xs H Q => ∃ (a : Addr) (bs : List Bool) (b : Bool), x = .ref a ∧ xs = [.bl b] ∧ H a = some (.lst (bs.map V.bl)) ∧ Q (.int (PySem.Spec.countIn (.bool b) (bs.map PyData.bool))) H
theorem vals_bools {h : Heap} : ∀ {bs : List Bool} {us : List Value}, Vals (bs.map V.bl) us → ∃ as, ReadsAll h us (bs.map PyData.bool) as
  | [], _, .nil => ⟨_, .nil⟩
  | b :: bs, _, .cons r rs => by
    obtain ⟨as, ra⟩ := vals_bools (h := h) rs
    cases (show _ = Value.bool b from r)
    exact ⟨_, .cons (.bool b) ra⟩
theorem mt_countB : MtR X "list.count" rCountB := by
  intro pins s σ H x xs v us Q I rx rxs h
  obtain ⟨a, bs, b, rfl, rfl, ha, q⟩ := h
  cases rx
  cases rxs with
  | cons ry rt =>
    cases rt
    cases ry
    obtain ⟨its, rv, hl, hlen⟩ := I.list (SqL.of ha)
    obtain ⟨as, ra⟩ := vals_bools (h := s.heap) rv
    exact PyProof.Rows.count_list_bools hl.isList ra (List.all_eq_true.mpr fun d hd => by obtain ⟨b', _, rfl⟩ := List.mem_map.mp hd; rfl) ⟨.int _, H, I.tok _, ⟨_, rfl⟩, q⟩
def boolsOf : List PD → Option (List Bool)
  | [] => some []
  | .bl b :: r => (boolsOf r).map (b :: ·)
  | _ :: _ => none
def dCountB : Dm := fun d ds k => match d, ds with
  | .lst ys, [.bl b] => ok (boolsOf ys) fun bs => k (.dat (.int (PySem.Spec.countIn (.bool b) (bs.map PyData.bool))))
  | _, _ => False
theorem bools_v {G : Hp} : ∀ {ys : List PD} {us : List V} {bs : List Bool}, RpAll K G us ys → boolsOf ys = some bs → us = bs.map V.bl
  | [], _, bs, .nil, h => by cases h; rfl
  | d :: ys, _, bs, .cons r rs, h => by
    cases d with
    | bl b =>
      unfold boolsOf at h
      cases hq : boolsOf ys with
      | none => rw [hq] at h; cases h
      | some bs' =>
        rw [hq] at h
        cases h
        cases r
        rw [List.map_cons, bools_v rs hq]
    | _ => unfold boolsOf at h; cases h
theorem okm_countB : OkM K rCountB dCountB := by
  intro B G H σ ρ x dx xs ds Q QV R vx vs q k
  match dx, ds, vs, q with
  | .lst ys, [.bl b], .cons vy .nil, q =>
    obtain ⟨bs, eb, q⟩ := ok_some q
    obtain ⟨a, us, rfl, hp, rs⟩ := vx.lst R.gh
    rw [bools_v rs eb] at hp
    exact ⟨a, bs, b, rfl, by rw [vy.bl], hp, k.dat R (.int _) q⟩
section
variable (hfew : Prop)
theorem de_index {o : Expr} {to : TE} {wo : We} (ho : DE X o to wo) (h : DA X (e :: es) t wa) (hbase : attributeBase o "index" X.env (eval o X.env) = eval o X.env := by rfl)
    (hfew : ((backTo cpos (starEach (e :: es) X.env)).all (fun x => !x.1) && (backToKw cpos (keywordEach [] X.env)).all (fun x => x.1.isSome) && decide ((e :: es).length + ([] : List Keyword).length + (if ([] : List Keyword).isEmpty then 0 else 1) < 30)) = true := by rfl)
    (hline : (apos.endLine == cpos.line) = true := by rfl) (hs : starEach (e :: es) X.env = (false, eval e X.env) :: starEach es X.env := by rfl) (hplain : (backTo cpos (starEach es X.env)).any (·.1) = false := by rfl) :
    DE X (.Call (.Attribute o "index" apos) (e :: es) [] cpos) (tBM X.K "list" (rIndex X.K) to t) (wM dIndex wo wa) := ⟨pe_bm PySem.F.plainAttrs_list PySem.F.slot_list_index PySem.F.type_list_index mt_index ho.pe h.pa hbase hfew hline hs hplain, we_m okm_index ho.we h.wa⟩
theorem de_countB {o : Expr} {to : TE} {wo : We} (ho : DE X o to wo) (h : DA X (e :: es) t wa) (hbase : attributeBase o "count" X.env (eval o X.env) = eval o X.env := by rfl)
    (hfew : ((backTo cpos (starEach (e :: es) X.env)).all (fun x => !x.1) && (backToKw cpos (keywordEach [] X.env)).all (fun x => x.1.isSome) && decide ((e :: es).length + ([] : List Keyword).length + (if ([] : List Keyword).isEmpty then 0 else 1) < 30)) = true := by rfl)
    (hline : (apos.endLine == cpos.line) = true := by rfl) (hs : starEach (e :: es) X.env = (false, eval e X.env) :: starEach es X.env := by rfl) (hplain : (backTo cpos (starEach es X.env)).any (·.1) = false := by rfl) :
    DE X (.Call (.Attribute o "count" apos) (e :: es) [] cpos) (tBM X.K "list" rCountB to t) (wM dCountB wo wa) := ⟨pe_bm PySem.F.plainAttrs_list PySem.F.slot_list_count PySem.F.type_list_count mt_countB ho.pe h.pa hbase hfew hline hs hplain, we_m okm_countB ho.we h.wa⟩
end
/-! ### dicts: none, and of one pair -/
def wDnew : We := fun ρ Q => Q (.own (.dK [])) ρ
theorem de_dnew : DE X (.Dict [] [] pos) tDNewK wDnew := ⟨pe_dnewK, fun B G H σ ρ Q QV R q k n hn =>
  Gv.new (K := X.K) (Q := fun r => Q r ρ) (fun v G' H' r S3 R3 rr3 q3 => k v G' H' ρ r S3 R3 rr3 q3) R hn (.dK .nil) q⟩
theorem upd_twice {H : Hp} {a : Addr} {x y : HO} : upd (upd H a x) a y = upd H a y := by
  funext b
  by_cases hb : b = a
  · subst hb; rw [upd_same, upd_same]
  · rw [upd_ne hb, upd_ne hb, upd_ne hb]
def wD1 (k : Str) (i : Int) : We := fun ρ Q => Q (.own (.dK [(Sum.inr k, .int i)])) ρ
theorem de_d1 {k : Str} {i : Int} {j1 j2 : Nat} {p1 p2 : Pos} : DE X (.Dict [some (.Constant (.str k) j1 p1)] [.Constant (.int i) j2 p2] pos) (tDisp [(tC (.str k), tC (.int i))]) (wD1 k i) :=
  ⟨pe_disp (pps_cons pe_str pe_int pps_nil) rfl rfl (by simp) (by show 1 ≤ 15; decide), fun B G H σ ρ Q QV R q kk n hn => by
    refine ⟨upd_same, [(Sum.inr k, .int i)], rfl, by show 1 ≤ 15; decide, ?_⟩
    rw [upd_twice]
    exact Gv.new (K := X.K) (Q := fun r => Q r ρ) (fun v G' H' r S3 R3 rr3 q3 => kk v G' H' ρ r S3 R3 rr3 q3) R hn (.dK (.cons (.int i) .nil)) q⟩
def small1 (ks : List (Key × PD)) : Prop := ks = [] ∨ ∃ k i, ks = [(k, .int i)]
theorem Vw.dct1 {G H : Hp} {v : V} {ks : List (Key × PD)} (e : Ex G H) (h : Vw K G H v (.dct ks)) (s : small1 ks) : (ks = [] ∧ ∃ a, v = .ref a ∧ H a = some (.dK [])) ∨ ∃ k i, ks = [(k, .int i)] ∧ ∃ a, v = .ref a ∧ H a = some (.dK [(k, .int i)]) := by
  have go : ∃ a vs, v = .ref a ∧ H a = some (.dK vs) ∧ RpKv K G vs ks := by
    rcases h with h | ⟨q, ho, o, rfl, h1, h2, h3⟩
    · cases h with
      | dct hq r => exact ⟨_, _, rfl, e _ _ hq nt_dK, r⟩
    · cases h2 with
      | lst => cases h3
      | dK r => cases h3; exact ⟨_, _, rfl, h1, r⟩
  obtain ⟨a, vs, rfl, ha, r⟩ := go
  rcases s with rfl | ⟨k, i, rfl⟩
  · cases r; exact .inl ⟨rfl, a, rfl, ha⟩
  · cases r with
    | cons r1 r2 => cases r2; cases r1; exact .inr ⟨k, i, rfl, a, rfl, ha⟩
def dNeX : D2 := fun x y k => match x, y with
  | .dct ks, .dct ls => small1 ks ∧ ls = ks ∧ k (.dat (.bl false))
  | x, y => dNe x y k
theorem ok2_neX : Ok2 K (rOr rNeDA (rNeD K)) dNeX := by
  intro B G H σ ρ x y dx dy Q QV R vx vy q k
  by_cases hd : ∃ ks ls, dx = .dct ks ∧ dy = .dct ls
  · obtain ⟨ks, ls, rfl, rfl⟩ := hd
    obtain ⟨sm, rfl, q⟩ := q
    left
    rcases vx.dct1 R.gh sm with ⟨rfl, a, rfl, ha⟩ | ⟨c, i, rfl, a, rfl, ha⟩
    · rcases vy.dct1 R.gh sm with ⟨_, b, rfl, hb⟩ | ⟨_, _, z, _⟩
      · exact ⟨a, b, [], [], rfl, rfl, ha, hb, rfl, (fun p hp => nomatch hp), k.dat R (.bl _) q⟩
      · cases z
    · rcases vy.dct1 R.gh sm with ⟨z, _⟩ | ⟨c', i', z, b, rfl, hb⟩
      · cases z
      · cases z
        exact ⟨a, b, _, _, rfl, rfl, ha, hb, rfl, (fun p hp => by
          have : p = (c, V.int i) := by simpa using hp
          subst this
          exact ⟨by simp [valV], rfl⟩), k.dat R (.bl _) q⟩
  · right
    refine ok2_ne B G H σ ρ x y dx dy Q QV R vx vy ?_ k
    unfold dNeX at q
    split at q
    · exact absurd ⟨_, _, rfl, rfl⟩ hd
    · exact q
theorem dc_neX (hu : X.cx.A.units + 64 < cLine) : DC X .NotEq (rOr rNeDA (rNeD X.K)) dNeX := ⟨or_ok (op_ne_dictA (by omega)) (op_neD hu), ok2_neX⟩
/-! ### repr, of such dicts too -/
def d1py : List (Key × PD) → PyData
  | [(.inr k, .int i)] => .dict [(.str k, .int i)]
  | _ => .dict []
def rReprD1 : List V → Hp → VK → Prop := fun xs H Q => ∃ (a : Addr) (vs : List (Key × V)) (d : PyData), xs = [.ref a] ∧ H a = some (.dK vs) ∧ ((vs = [] ∧ d = .dict []) ∨ ∃ k i, vs = [(Sum.inr k, .int i)] ∧ d = .dict [(.str k, .int i)]) ∧ d.showable = true ∧ d.depth ≤ 64 ∧ d.shown.length ≤ sizeLine ∧ Q (.str d.shown) H
theorem call_reprD1 (hg : X.A.guards = some []) (hu : X.cx.A.units + 66 < cLine) : CallR X (.builtin "repr") rReprD1 := by
  intro pins s σ H xs us Q I r h
  obtain ⟨a, vs, d, rfl, ha, hv, s1, s2, s3, q⟩ := h
  rw [Vals.ref1 r]
  obtain ⟨hz, hsys, ws, kv, o, es, ep, ho, hex, hdat, hks, hpr, hnd⟩ := dk_of I.hok ha
  have rd : ∃ as, Reads s.heap (.ref a) d as ∧ sysModules ∉ as := by
    rcases hv with ⟨rfl, rfl⟩ | ⟨k, i, rfl, rfl⟩
    · cases kv
      generalize hes : es.toList = el at hpr
      cases hpr
      exact ⟨_, .dict (kvs := []) ho hex.1 hdat (by rw [hes]; exact .nil) (by rw [hes]; exact .nil), by
        have : (a == sysModules) = false := hsys
        simp at this
        simp
        exact fun z => this z.symm⟩
    · cases kv with
      | cons k1 k2 =>
        cases k2
        generalize hes : es.toList = el at hpr
        cases hpr with
        | cons p1 p2 p3 =>
          cases p3
          rename_i q0 e0
          obtain ⟨k1a, k1b⟩ := k1
          obtain ⟨tv, etv⟩ : ∃ t, q0.2 = Value.int i t := k1b
          rcases keyIs_shape p1 with ⟨i', t', z, _⟩ | ⟨x', t', z, ek⟩
          · rw [← k1a] at z; cases z
          · rw [← k1a] at z; cases z
            refine ⟨_, .dict (kvs := [(.str k, .int i)]) ho hex.1 hdat (as := [] ++ []) (bs := [] ++ []) (by rw [hes]; show ReadsAll _ [e0.key] [.str k] _; rw [ek]; exact .cons (.str k t') .nil) (by rw [hes]; show ReadsAll _ [e0.val] [.int i] _; rw [p2, etv]; exact .cons (.int i tv) .nil), ?_⟩
            have : (a == sysModules) = false := hsys
            simp at this
            simp
            exact fun z => this z.symm
  obtain ⟨as, rd, hsm⟩ := rd
  exact repr_of_reads' rd s1 (fun _ => hsm) hg (by omega) (fun _ _ z => z) (fun h' tu tk kk => ⟨.str _, H, I.kept kk, ⟨_, rfl⟩, q⟩) s3
def dReprX : Dn := fun ds k => match ds with
  | [.dct ks] => (ks = [] ∨ ∃ c i, ks = [(Sum.inr c, .int i)]) ∧ (d1py ks).showable = true ∧ (d1py ks).depth ≤ 64 ∧ (d1py ks).shown.length ≤ sizeLine ∧ k (.dat (.str (d1py ks).shown))
  | ds => dRepr ds k
theorem db_reprX (hg : X.A.guards = some []) (hu : X.cx.A.units + 66 < cLine) : DB X (.builtin "repr") (fun xs H Q => rReprD1 xs H Q ∨ rRepr X.K xs H Q) dReprX := by
  refine ⟨CallR.orr (call_reprD1 hg hu) (call_repr hg hu), fun B G H σ ρ xs ds Q QV R hv q k => ?_⟩
  by_cases hd : ∃ ks, ds = [.dct ks]
  · obtain ⟨ks, rfl⟩ := hd
    obtain ⟨sm, s1, s2, s3, q⟩ := q
    cases hv with
    | cons v r =>
      cases r
      left
      rcases sm with rfl | ⟨c, i, rfl⟩
      · rcases v.dct1 R.gh (.inl rfl) with ⟨_, a, rfl, ha⟩ | ⟨_, _, z, _⟩
        · exact ⟨a, _, _, rfl, ha, .inl ⟨rfl, rfl⟩, s1, s2, s3, k.dat R (.str _) q⟩
        · cases z
      · rcases v.dct1 R.gh (.inr ⟨_, _, rfl⟩) with ⟨z, _⟩ | ⟨_, _, z, a, rfl, ha⟩
        · cases z
        · cases z
          exact ⟨a, _, _, rfl, ha, .inr ⟨_, _, rfl, rfl⟩, s1, s2, s3, k.dat R (.str _) q⟩
  · right
    refine (db_repr hg hu).ok B G H σ ρ xs ds Q QV R hv ?_ k
    unfold dReprX at q
    split at q
    · exact absurd ⟨_, rfl⟩ hd
    · exact q
end
end DL

set_option Elab.async false
set_option linter.all false
set_option maxRecDepth 100000
set_option maxHeartbeats 2000000
namespace DL
open PySem L2
/-! ### what the written part says of the errors, as one answer -/
def errCls (K : PySem.W.Frag) (C : Addr) : Bool := match K.lookup C with
  | some ⟨.type "type", _, .cls cd, sl⟩ => (match cd.mro, sl.toList with
    | .ref C' :: bm, [_, _, _, _, some (.builtin n), _] => C' == C && (n == "ValueError.__new__" && (!cd.hasDel && (cd.hasDict && PySem.HandSPX.refsVE bm)))
    | _, _ => false)
  | _ => false
theorem errCls_ok {K : PySem.W.Frag} {C : Addr} (q : errCls K C = true) : ∃ nm q N bs bm sn sub ab col dd k0 k1 k2 k3 k5, K.lookup C = some (excClassObj nm q C N bs bm true sn sub ab col dd k0 k1 k2 k3 k5 "ValueError.__new__") ∧ PySem.HandSPX.refsVE bm = true := by
  unfold errCls at q
  split at q
  · rename_i dd cd sl ho
    split at q
    · rename_i C' bm k0 k1 k2 k3 n k5 hm hs
      simp only [Bool.and_eq_true, beq_iff_eq, Bool.not_eq_true'] at q
      obtain ⟨rfl, rfl, hdel, hdict, hbm⟩ := q
      obtain ⟨nm, bs, mro, ns, qn, hd, sn, sub, ab, col, del⟩ := cd
      dsimp only at hm hdel hdict
      subst hm hdel hdict
      have hsl : sl = #[k0, k1, k2, k3, some (.builtin "ValueError.__new__"), k5] := by
        obtain ⟨l⟩ := sl
        simp only at hs
        rw [hs]
      subst hsl
      exact ⟨nm, qn, ns, bs, bm, sn, sub, ab, col, dd, k0, k1, k2, k3, k5, ho, hbm⟩
    · cases q
  · cases q
def errB (K : PySem.W.Frag) (fI C : Addr) : Bool := errCls K C && (decide (PySem.W.findIn K (.ref C) "__setattr__" = some (some (.builtin "object.__setattr__"))) && (decide (PySem.W.typeIn K (.ref C) = some (.type "type")) && (PySem.W.keepIn K (.ref C) && (xfB K C &&
  (decide (PySem.W.findIn K (.ref C) "value" = some none) && ((PySem.W.clsIn K C).isSome && (decide (PySem.W.findIn K (.ref C) "__class__" = some (some (.builtin "object.__class__"))) && (decide (PySem.W.mroIn K C (.type "object") = some true) && decide (PySem.W.findIn K (.ref C) "__init__" = some (some (.ref fI)))))))))))
def errG (K : PySem.W.Frag) (fI : Addr) : Bool := decide (PySem.W.specialIn K (.builtin "object.__class__") "__get__" = some (some (.builtin "getset_descriptor.__get__"))) && (decide (PySem.W.takesIn K (.builtin "object.__class__") = some true) && decide (PySem.W.typeIn K (.ref fI) = some (.type "function")))
theorem errB_ok {K : PySem.W.Frag} {fI C : Addr} (h : errB K fI C = true) (g : errG K fI = true) : ErrC K C fI := by
  obtain ⟨h1, h⟩ := Bool.and_eq_true_iff.mp h
  obtain ⟨h2, h⟩ := Bool.and_eq_true_iff.mp h
  obtain ⟨h3, h⟩ := Bool.and_eq_true_iff.mp h
  obtain ⟨h4, h⟩ := Bool.and_eq_true_iff.mp h
  obtain ⟨h5, h⟩ := Bool.and_eq_true_iff.mp h
  obtain ⟨h6, h⟩ := Bool.and_eq_true_iff.mp h
  obtain ⟨h7, h⟩ := Bool.and_eq_true_iff.mp h
  obtain ⟨h8, h⟩ := Bool.and_eq_true_iff.mp h
  obtain ⟨h9, h10⟩ := Bool.and_eq_true_iff.mp h
  obtain ⟨g1, g⟩ := Bool.and_eq_true_iff.mp g
  obtain ⟨g2, g3⟩ := Bool.and_eq_true_iff.mp g
  have x := xfB_ok h5
  exact { oex := ⟨errCls_ok h1, of_decide_eq_true h2, x.exC, of_decide_eq_true h3, h4⟩, xf := x, no := of_decide_eq_true h6, cl := h7, hc := of_decide_eq_true h8, hn := of_decide_eq_true g1, ht := of_decide_eq_true g2, hm := of_decide_eq_true h9, iC := of_decide_eq_true h10, tI := of_decide_eq_true g3 }
/-- all classes Cs, the last one being the base of the others -/
def errsB (K : PySem.W.Frag) (Cs : List Addr) (fI : Addr) (kb : Nat → Nat → Bool) : Bool := errG K fI && (Cs.all (errB K fI) && ((List.range Cs.length).all fun i => decide (PySem.W.kitOne K (.ref (Cs.getD i 0)) (.type "ValueError") = some true) && (List.range Cs.length).all fun j => decide (PySem.W.kitOne K (.ref (Cs.getD i 0)) (.ref (Cs.getD j 0)) = some (kb j i))))
theorem errsB_ok {K : PySem.W.Frag} {Cs : List Addr} {fI : Addr} {kb : Nat → Nat → Bool} (h : errsB K Cs fI kb = true) :
    (∀ i, i < Cs.length → ErrC K (Cs.getD i 0) fI) ∧ (∀ j, j < Cs.length → ∀ i, i < Cs.length → PySem.W.kitOne K (.ref (Cs.getD i 0)) (.ref (Cs.getD j 0)) = some (kb j i)) ∧ ∀ i, i < Cs.length → PySem.W.kitOne K (.ref (Cs.getD i 0)) (.type "ValueError") = some true := by
  obtain ⟨h0, h⟩ := Bool.and_eq_true_iff.mp h
  obtain ⟨h1, h2⟩ := Bool.and_eq_true_iff.mp h
  have a : ∀ i, i < Cs.length → _ := fun i hi => Bool.and_eq_true_iff.mp (List.all_eq_true.mp h2 i (List.mem_range.mpr hi))
  refine ⟨fun i hi => errB_ok (List.all_eq_true.mp h1 _ ?_) h0, fun j hj i hi => of_decide_eq_true (List.all_eq_true.mp (a i hi).2 j (List.mem_range.mpr hj)), fun i hi => of_decide_eq_true (a i hi).1⟩
  rw [List.getD_eq_getElem?_getD, List.getElem?_eq_getElem hi]
  exact List.getElem_mem hi
end DL

set_option Elab.async false
set_option linter.all false
set_option maxRecDepth 100000
set_option maxHeartbeats 2000000
namespace DL
open PySem L2
section
variable {X : CxT} {K : KT} {T : Nat → Bool} {e : Expr} {te tt' : TE} {t : TA} {we : We} {wa : Wa} {pos p p2 pos' tpos : Pos} {x : Str}
/-! ### x = [comprehension] -/
theorem ds_setLcF {elt tg iter : Expr} {i : Nat} {y : Str} {py spos : Pos} {scope : Scope} {own : List (Str × Nat)} {ifs : List Expr} {wi : TI} {wI : Wi} {g : TG} {wg : Wg} {tt : TT} {wt : Wt} (hT : T i = false) (hc : X.calm = true) (hN : X.N.Nodup) (hy : X.N[i]? = some y) (hyl : X.env.scope.names.lookup y = some .local)
    (hsw : swapsWith (.ListComp elt [⟨tg, iter, ifs, 0⟩] scope pos) (some (.Name y py)) spos.line X.env = pure true) (hv : (own.map (·.2)).Nodup) (hi : DI X tg iter wi wI) (okb : BlkOk X.N X.env.scope scope own)
    (hg : ∀ (s : Shared) (H : Hp) (C : Addr) (cl : List (Str × Addr)) (fp : List Addr), DG (X.blk s H scope (compEnvC scope cl C X.env) fp) T0 tg g wg) (ho : GOnly (own.map (·.2)) g)
    (ht : ∀ (s : Shared) (H : Hp) (C : Addr) (cl : List (Str × Addr)) (fp : List Addr), PTs (X.blk s H scope (compEnvC scope cl C X.env) fp) ifs tt) (hw : WTt X.K tt wt)
    (he : ∀ (s : Shared) (H : Hp) (C : Addr) (cl : List (Str × Addr)) (fp : List Addr), DE (X.blk s H scope (compEnvC scope cl C X.env) fp) elt te we) (hs : ∀ x, foldedSetIterable iter X.env x = pure x := by intro _; rfl) :
    DS X T (.Assign [.Name y py] (.ListComp elt [⟨tg, iter, ifs, 0⟩] scope pos) spos) (tAsg (tLc wi g tt te (own.map (·.2))) (gName i)) (wSetF i (wLc (own.map (·.2)) wI wg wt we)) :=
  ⟨ps_setLc hc hN hy hyl hsw hi.pi okb (fun s H C cl fp => (hg s H C cl fp).pg) ht (fun s H C cl fp => (he s H C cl fp).pe) hs, ws_setF hT (we_lc hv hi.wi (hg X.s_0 X.H_0 0 [] []).wg ho hw (he X.s_0 X.H_0 0 [] []).we)⟩
/-! ### max, min of a list of ints -/
def dMaxL : Dn := fun ds k => match ds with
  | [.lst xs] => ok (intsOf xs) fun ns => 0 < ns.length ∧ ∀ m, m ∈ ns → (∀ y, y ∈ ns → y ≤ m) → k (.dat (.int m))
  | _ => False
def dMinL : Dn := fun ds k => match ds with
  | [.lst xs] => ok (intsOf xs) fun ns => 0 < ns.length ∧ ∀ m, m ∈ ns → (∀ y, y ∈ ns → m ≤ y) → k (.dat (.int m))
  | _ => False
theorem db_maxL (hc : X.calm = true) : DB X (.builtin "max") (rMax X.K) dMaxL := by
  refine ⟨cr_max hc, fun B G H σ ρ xs ds Q QV R hv q k => ?_⟩
  match ds, hv, q with
  | [.lst ys], .cons h .nil, q =>
    obtain ⟨ns, e, h0, q⟩ := ok_some q
    obtain ⟨a, us, rfl, ha, ra⟩ := h.lst R.gh
    rw [intsOf_eq e] at ra
    rw [ra.ints] at ha
    exact ⟨a, ns, rfl, SqL.of ha, h0, fun m h1 h2 => k.dat R (.int m) (q m h1 h2)⟩
theorem db_minL (hc : X.calm = true) : DB X (.builtin "min") (rMin X.K) dMinL := by
  refine ⟨cr_min hc, fun B G H σ ρ xs ds Q QV R hv q k => ?_⟩
  match ds, hv, q with
  | [.lst ys], .cons h .nil, q =>
    obtain ⟨ns, e, h0, q⟩ := ok_some q
    obtain ⟨a, us, rfl, ha, ra⟩ := h.lst R.gh
    rw [intsOf_eq e] at ra
    rw [ra.ints] at ha
    exact ⟨a, ns, rfl, SqL.of ha, h0, fun m h1 h2 => k.dat R (.int m) (q m h1 h2)⟩
/-! ### dicts of one's own, by ints and texts -/
def PD.key : PD → Option Key
  | .int i => some (.inl i)
  | .str x => some (.inr x)
  | _ => none
def ownD (i : Nat) (ρ : Sl) (k : List (Key × PD) → Prop) : Prop := match ρ[i]? with
  | some (.own (.dK kvs)) => k kvs
  | _ => False
theorem ownD_of {i : Nat} {ρ : Sl} {k : List (Key × PD) → Prop} (h : ownD i ρ k) : ∃ xs, ρ[i]? = some (SD.own (.dK xs)) ∧ k xs := by
  unfold ownD at h
  split at h
  · rename_i xs e; exact ⟨xs, e, h⟩
  · exact h.elim
theorem Rep.dK {B : Addr → Prop} {G H : Hp} {σ : L2.St} {ρ : Sl} {i : Nat} {xs : List (Key × PD)} (R : Rep K B G H σ ρ) (hi : ρ[i]? = some (SD.own (.dK xs))) : ∃ p vs, σ[i]? = some (some (V.ref p)) ∧ H p = some (.dK vs) ∧ RpKv K G vs xs := by
  obtain ⟨p, ho, h1, h2, h3, h4, h5⟩ := R.own i _ hi
  cases h5 with
  | dK r => exact ⟨p, _, h1, h2, r⟩
def getP (kds : List (Key × PD)) (k : Key) : Option PD := (kds.find? fun kv => decide (kv.1 = k)).map (·.2)
def putP (kds : List (Key × PD)) (k : Key) (d : PD) : List (Key × PD) := if (kds.any fun kv => decide (kv.1 = k)) = true then kds.map (fun kv => if kv.1 = k then (kv.1, d) else kv) else kds ++ [(k, d)]
theorem kv_any {G : Hp} {k : Key} : ∀ {vs : List (Key × V)} {ds : List (Key × PD)}, RpKv K G vs ds → (vs.any fun kv => decide (kv.1 = k)) = ds.any fun kv => decide (kv.1 = k)
  | _, _, .nil => rfl
  | _, _, .cons h r => by simp only [List.any_cons, kv_any r]
theorem kv_get {G : Hp} {k : Key} : ∀ {vs : List (Key × V)} {ds : List (Key × PD)}, RpKv K G vs ds → (valV vs k = none ∧ getP ds k = none) ∨ ∃ v d, valV vs k = some v ∧ getP ds k = some d ∧ Rp K G v d
  | _, _, .nil => .inl ⟨rfl, rfl⟩
  | (k', v) :: vs, (_, d) :: ds, .cons h r => by
    by_cases hk : k' = k
    · subst hk
      exact .inr ⟨v, d, by simp [valV], by simp [getP], h⟩
    · have e1 : valV ((k', v) :: vs) k = valV vs k := by unfold valV; rw [List.find?_cons_of_neg (by simpa using hk)]
      have e2 : getP ((k', d) :: ds) k = getP ds k := by unfold getP; rw [List.find?_cons_of_neg (by simpa using hk)]
      rw [e1, e2]
      exact kv_get r
theorem kv_map {G : Hp} {k : Key} {v : V} {d : PD} (h0 : Rp K G v d) : ∀ {vs : List (Key × V)} {ds : List (Key × PD)}, RpKv K G vs ds → RpKv K G (vs.map fun kv => if kv.1 = k then (kv.1, v) else kv) (ds.map fun kv => if kv.1 = k then (kv.1, d) else kv)
  | _, _, .nil => .nil
  | (k', _) :: _, _, .cons h r => by
    simp only [List.map_cons]
    by_cases hk : k' = k
    · rw [if_pos hk, if_pos hk]; exact .cons h0 (kv_map h0 r)
    · rw [if_neg hk, if_neg hk]; exact .cons h (kv_map h0 r)
theorem kv_app {G : Hp} {k : Key} {v : V} {d : PD} (h0 : Rp K G v d) : ∀ {vs : List (Key × V)} {ds : List (Key × PD)}, RpKv K G vs ds → RpKv K G (vs ++ [(k, v)]) (ds ++ [(k, d)])
  | _, _, .nil => .cons h0 .nil
  | _, _, .cons h r => .cons h (kv_app h0 r)
theorem kv_put {G : Hp} {k : Key} {v : V} {d : PD} (h0 : Rp K G v d) {vs : List (Key × V)} {ds : List (Key × PD)} (r : RpKv K G vs ds) : RpKv K G (putK vs k v) (putP ds k d) := by
  unfold putK putP
  rw [kv_any r]
  split
  · exact kv_map h0 r
  · exact kv_app h0 r
theorem vw_key {G H : Hp} {v : V} {d : PD} {k : Key} (h : Vw K G H v d) (e : d.key = some k) : v = kV k := by
  cases d with
  | int i => cases e; exact h.int
  | str z => cases e; exact h.str
  | _ => cases e
/-- k in d, k not in d; d the slot j -/
def wDIn (neg : Bool) (wk : We) (j : Nat) : We := fun ρ Q => wk ρ fun r ρ1 => look r ρ1 fun d => ok d.key fun k => ownD j ρ1 fun kvs => Q (.dat (.bl (if neg then !(getP kvs k).isSome else (getP kvs k).isSome))) ρ1
theorem getP_some {G : Hp} {k : Key} {vs : List (Key × V)} {ds : List (Key × PD)} (r : RpKv K G vs ds) : (valV vs k).isSome = (getP ds k).isSome := by
  rcases kv_get (k := k) r with ⟨a, b⟩ | ⟨v, d, a, b, _⟩ <;> rw [a, b] <;> rfl
theorem we_din {j : Nat} {ty : TE} {wk : We} (h : WE K ty wk) : WE K (tDIn ty (tVar j)) (wDIn false wk j) := fun B G H σ ρ Q QV R q k =>
  h B G H σ ρ _ _ R q fun y G1 H1 ρ1 r S1 R1 rr q1 => by
    obtain ⟨d, ed, q1⟩ := ok_some q1
    obtain ⟨c, ec, q1⟩ := ok_some q1
    obtain ⟨kvs, ek, q1⟩ := ownD_of q1
    obtain ⟨p, vs, hs, hp, rk⟩ := R1.dK ek
    refine ⟨_, hs, p, valV vs c, rfl, ?_, ?_⟩
    · rw [vw_key (rr.vw R1 ed) ec]; exact DGet.k hp
    · rw [getP_some rk]; exact k _ G1 H1 ρ1 _ S1 R1 (.dat (.bl _)) q1
theorem we_dnotin {j : Nat} {ty : TE} {wk : We} (h : WE K ty wk) : WE K (tDNotIn ty (tVar j)) (wDIn true wk j) := fun B G H σ ρ Q QV R q k =>
  h B G H σ ρ _ _ R q fun y G1 H1 ρ1 r S1 R1 rr q1 => by
    obtain ⟨d, ed, q1⟩ := ok_some q1
    obtain ⟨c, ec, q1⟩ := ok_some q1
    obtain ⟨kvs, ek, q1⟩ := ownD_of q1
    obtain ⟨p, vs, hs, hp, rk⟩ := R1.dK ek
    refine ⟨_, hs, p, valV vs c, rfl, ?_, ?_⟩
    · rw [vw_key (rr.vw R1 ed) ec]; exact DGet.k hp
    · rw [getP_some rk]; exact k _ G1 H1 ρ1 _ S1 R1 (.dat (.bl _)) q1
/-- d[k]; d the slot j -/
def wDGet (j : Nat) (wk : We) : We := fun ρ Q => ownD j ρ fun _ => wk ρ fun r ρ1 => look r ρ1 fun d => ok d.key fun k => ownD j ρ1 fun kvs => ok (getP kvs k) fun v => Q (.dat v) ρ1
theorem we_dget {j : Nat} {ty : TE} {wk : We} (h : WE K ty wk) : WE K (tDGet (tVar j) ty) (wDGet j wk) := fun B G H σ ρ Q QV R q k => by
  obtain ⟨_, e0, q⟩ := ownD_of q
  obtain ⟨p, _, hs, _, _⟩ := R.dK e0
  refine ⟨_, hs, h B G H σ ρ _ _ R q fun y G1 H1 ρ1 r S1 R1 rr q1 => ?_⟩
  obtain ⟨d, ed, q1⟩ := ok_some q1
  obtain ⟨c, ec, q1⟩ := ok_some q1
  obtain ⟨kvs, ek, q1⟩ := ownD_of q1
  obtain ⟨v, ev, q1⟩ := ok_some q1
  obtain ⟨p', vs, hs', hp, rk⟩ := R1.dK ek
  rw [hs] at hs'; cases hs'
  rcases kv_get (k := c) rk with ⟨_, z⟩ | ⟨w, d', a, b, rw'⟩
  · rw [z] at ev; cases ev
  · rw [b] at ev; cases ev
    refine ⟨p, w, rfl, ?_, k _ G1 H1 ρ1 _ S1 R1 (.dat rw') q1⟩
    rw [vw_key (rr.vw R1 ed) ec, ← a]
    exact DGet.k hp
/-- d[k] = e; d the slot j -/
def wDPut (j : Nat) (wk wv : We) : Ws := fun O ρ => wv ρ fun r ρ1 => warm r ρ1 ∧ frz [r.cool] ρ1 fun ds ρ2 => ownD j ρ2 fun _ => wk ρ2 fun rk ρ3 => look rk ρ3 fun dk => ok dk.key fun k => ownD j ρ3 fun kvs => match ds with
  | [d] => kvs.length < sizeLine ∧ O.nx (ρ3.set j (.own (.dK (putP kvs k d))))
  | _ => False
theorem RpKv.length {G : Hp} : ∀ {vs : List (Key × V)} {ds : List (Key × PD)}, RpKv K G vs ds → vs.length = ds.length
  | _, _, .nil => rfl
  | _, _, .cons _ r => congrArg (· + 1) (RpKv.length r)
theorem ws_dput {j : Nat} {ty tv : TE} {wk wv : We} (hv : WE K tv wv) (hk : WE K ty wk) : WSs K T (sDPut (tVar j) ty tv) (wDPut j wk wv) := fun B G H σ S0 ρ O D R P q kn kr kb kc =>
  hv B G H σ ρ _ _ R q fun v G1 H1 ρ1 r S1 R1 rr ⟨c1, q1⟩ => by
    obtain ⟨G1', S1', R1', rr1', cc, ec⟩ := rr.cool R1 c1
    obtain ⟨⟨ds, ρ2⟩, e, q1⟩ := ok_some q1
    obtain ⟨G2, S2, R2, ra⟩ := frz_all R1' (.cons rr1' cc .nil) e
    obtain ⟨_, e0, q1⟩ := ownD_of q1
    obtain ⟨p, _, hs, _, _⟩ := R2.dK e0
    refine ⟨_, hs, hk B G2 H1 σ ρ2 _ _ R2 q1 fun y G3 H3 ρ3 rk S3 R3 rr3 q3 => ?_⟩
    obtain ⟨dk, edk, q3⟩ := ok_some q3
    obtain ⟨c, ecd, q3⟩ := ok_some q3
    obtain ⟨kvs, ek, q3⟩ := ownD_of q3
    obtain ⟨p', vs, hs', hp, rkv⟩ := R3.dK ek
    rw [hs] at hs'; cases hs'
    match ds, ra, q3 with
    | [d], ra, ⟨hz, q3⟩ =>
      obtain ⟨w, ew, rv⟩ := ra.one
      cases ew
      obtain ⟨R4, S4⟩ := R3.write (ho' := .dK (putK vs c v)) ek hs (.dK (kv_put (rv.mono S3.g) rkv))
      refine ⟨p, _, rfl, ?_, kn G3 _ σ _ ((((S1.trans S1').trans S2).trans S3).trans S4) R4 P q3⟩
      rw [vw_key (rr3.vw R3 edk) ecd]
      exact DPut.k hp (by rw [rkv.length]; exact hz)
variable {e2 : Expr} {x1 : Str} {t2 : TE} {wk : We} {j : Nat}
theorem de_din (hu : X.cx.A.units + 1 < cLine) (hk : DE X e t2 wk) (hd : DE X (.Name x1 p) (tVar j) (wVar j)) (h1 : behindInMarks .In (.Name x1 p) = false := by rfl) : DE X (.Compare e [.In] [.Name x1 p] pos) (tDIn t2 (tVar j)) (wDIn false wk j) := ⟨pe_cmp (pc_din hu hk.pe hd.pe) h1, we_din hk.we⟩
theorem de_dnotin (hu : X.cx.A.units + 1 < cLine) (hk : DE X e t2 wk) (hd : DE X (.Name x1 p) (tVar j) (wVar j)) (h1 : behindInMarks .NotIn (.Name x1 p) = false := by rfl) : DE X (.Compare e [.NotIn] [.Name x1 p] pos) (tDNotIn t2 (tVar j)) (wDIn true wk j) := ⟨pe_cmp (pc_dnotin hu hk.pe hd.pe) h1, we_dnotin hk.we⟩
theorem dt_din (hu : X.cx.A.units + 1 < cLine) (hk : DE X e t2 wk) (hd : DE X (.Name x1 p) (tVar j) (wVar j)) (h1 : behindInMarks .In (.Name x1 p) = false := by rfl) : DT X (.Compare e [.In] [.Name x1 p] pos) (tB (tDIn t2 (tVar j))) (wB (wDIn false wk j)) := ⟨pt_cmp (pc_din hu hk.pe hd.pe) h1, wt_of (we_din hk.we)⟩
theorem dt_dnotin (hu : X.cx.A.units + 1 < cLine) (hk : DE X e t2 wk) (hd : DE X (.Name x1 p) (tVar j) (wVar j)) (h1 : behindInMarks .NotIn (.Name x1 p) = false := by rfl) : DT X (.Compare e [.NotIn] [.Name x1 p] pos) (tB (tDNotIn t2 (tVar j))) (wB (wDIn true wk j)) := ⟨pt_cmp (pc_dnotin hu hk.pe hd.pe) h1, wt_of (we_dnotin hk.we)⟩
theorem de_dget (hu : X.cx.A.units + 1 < cLine) (hd : DE X (.Name x1 p) (tVar j) (wVar j)) (hk : DE X e t2 wk) (hs : NoSl e) : DE X (.Subscript (.Name x1 p) e pos) (tDGet (tVar j) t2) (wDGet j wk) := ⟨pe_dget hu hd.pe hk.pe hs, we_dget hk.we⟩
theorem ds_dput {tv : TE} {wv : We} {value : Expr} (hu : X.cx.A.units + 1 < cLine) (hv : DE X value tv wv) (hd : DE X (.Name x1 p) (tVar j) (wVar j)) (hk : DE X e t2 wk) (hs : swapsWith value (some (.Subscript (.Name x1 p) e pos')) pos.line X.env = pure false := by rfl) :
    DS X T (.Assign [.Subscript (.Name x1 p) e pos'] value pos) (sDPut (tVar j) t2 tv) (wDPut j wk wv) := ⟨ps_dput hu hd.pe hk.pe hv.pe hs, ws_dput hv.we hk.we⟩
end
end DL

set_option Elab.async false
set_option linter.all false
set_option maxRecDepth 100000
set_option maxHeartbeats 2000000
namespace DL
open PySem L2 RZ
section
variable {X : CxT} {K : KT} {e e2 : Expr} {p pos : Pos}
/-! ### zip of two lists -/
def wZip (wa : Wa) : Wi := fun ρ Q => wa ρ fun rs ρ1 => frz rs ρ1 fun ds ρ2 => match ds with
  | [.lst xs, .lst ys] => Q (zipP xs ys) ρ2
  | _ => False
theorem wi_zip {t : TA} {wa : Wa} (h : WAa K t wa) : WIi K (iZipA K t) (wZip wa) := fun B G H σ ρ Q QJ R q k =>
  h B G H σ ρ _ _ R q fun vs G1 H1 ρ1 rs S1 R1 rr q1 => by
    obtain ⟨⟨ds, ρ2⟩, e, q1⟩ := ok_some q1
    obtain ⟨G2, S2, R2, ra⟩ := frz_all R1 rr e
    match ds, ra, q1 with
    | [.lst xs, .lst ys], .cons r1 (.cons r2 .nil), q1 =>
      cases r1 with
      | lst hg r =>
        cases r2 with
        | lst hg' r' => exact ⟨_, _, _, _, rfl, .inl ⟨SqL.of (R2.gh _ _ hg nt_lst), SqL.of (R2.gh _ _ hg' nt_lst), k _ G2 H1 ρ2 _ (S1.trans S2) R2 (it_zip (fun G' H' e e' => ⟨SqL.of (e' _ _ (e _ _ hg nt_lst) nt_lst), SqL.of (e' _ _ (e _ _ hg' nt_lst) nt_lst)⟩) r r') q1⟩⟩
theorem di_zip {t : TA} {wa : Wa} {elts : List Expr} {kk : Nat} {tpos : Pos} (hm : X.mg "zip" = none) (ha : DA X [e, e2] t wa) (hg : Gl X "zip" := by rfl) (hs : starEach [e, e2] X.env = (false, eval e X.env) :: starEach [e2] X.env := by rfl) (hpl : (backTo pos (starEach [e2] X.env)).any (·.1) = false := by rfl) :
    DI X (.Tuple elts kk tpos) (.Call (.Name "zip" p) [e, e2] [] pos) (iZipA X.K t) (wZip wa) := ⟨pi_zipA hg hm ha.pa hs hpl, wi_zip ha.wa⟩
/-! ### x = [comprehension with a test] -/
theorem ds_setLcIfF {T : Nat → Bool} {elt tg iter cnd : Expr} {i : Nat} {y : Str} {py spos : Pos} {scope : Scope} {own : List (Str × Nat)} {wi : TI} {wI : Wi} {g : TG} {wg : Wg} {tt : TT} {wt : Wt} {te : TE} {we : We} (hT : T i = false) (hc : X.calm = true) (hN : X.N.Nodup) (hy : X.N[i]? = some y) (hyl : X.env.scope.names.lookup y = some .local)
    (hsw : swapsWith (.ListComp elt [⟨tg, iter, [cnd], 0⟩] scope pos) (some (.Name y py)) spos.line X.env = pure true) (hv : (own.map (·.2)).Nodup) (hi : DI X tg iter wi wI) (okb : BlkOk X.N X.env.scope scope own)
    (hg : ∀ (s : Shared) (H : Hp) (C : Addr) (cl : List (Str × Addr)) (fp : List Addr), DG (X.blk s H scope (compEnvC scope cl C X.env) fp) T0 tg g wg) (ho : GOnly (own.map (·.2)) g)
    (ht : ∀ (s : Shared) (H : Hp) (C : Addr) (cl : List (Str × Addr)) (fp : List Addr), DT (X.blk s H scope (compEnvC scope cl C X.env) fp) cnd tt wt)
    (he : ∀ (s : Shared) (H : Hp) (C : Addr) (cl : List (Str × Addr)) (fp : List Addr), DE (X.blk s H scope (compEnvC scope cl C X.env) fp) elt te we) (hs : ∀ x, foldedSetIterable iter X.env x = pure x := by intro _; rfl) :
    DS X T (.Assign [.Name y py] (.ListComp elt [⟨tg, iter, [cnd], 0⟩] scope pos) spos) (tAsg (tLc wi g tt te (own.map (·.2))) (gName i)) (wSetF i (wLc (own.map (·.2)) wI wg wt we)) :=
  ds_setLcF hT hc hN hy hyl hsw hv hi okb hg ho (fun s H C cl fp => pts_one (ht s H C cl fp).pt) (ht X.s_0 X.H_0 0 [] []).wt he hs
/-! ### a, b, .. = x, y, .. through a tuple (names of cells, four names and more) -/
def gsNames : List Nat → TGs
  | [] => gNil
  | i :: is => gCons (gName i) (gsNames is)
theorem gs_setAll {H : Hp} {Q : L2.St → Hp → Prop} : ∀ {is : List Nat} {vs : List V} {σ : L2.St}, vs.length = is.length → Q (setAll is vs σ) H → gsNames is vs σ H Q
  | [], [], σ, _, h => ⟨rfl, h⟩
  | i :: is, v :: vs, σ, e, h => ⟨v, vs, rfl, gs_setAll (is := is) (vs := vs) (by simpa using e) h⟩
theorem RRh.aside {G H : Hp} {σ : L2.St} {ρ : Sl} {p : Addr} {o : HO} (hp : H p = none) : ∀ {vs : List V} {rs : List Rz} {B : Addr → Prop}, RRh K G H σ ρ B vs rs → RRh K G (upd H p o) σ ρ B vs rs
  | _, _, _, .nil => .nil
  | _, _, _, .cons h t => by
    refine .cons ?_ (RRh.aside hp t)
    cases h with
    | dat q => exact .dat q
    | bor q => exact .bor q
    | own h1 h2 h3 h4 h5 => exact .own (by rw [upd_ne (ne_of_none h1 hp)]; exact h1) h2 h3 h4 h5
theorem ws_putsT {T : Nat → Bool} {is : List Nat} {ta : TA} {wa : Wa} (hi : is.all (fun i => !T i) = true) (hn : is.length ≤ sizeLine) (h : WAh K ta wa) : WSs K T (tAsg (tTup ta) (gTup K is.length (gsNames is))) (wPuts is wa) := fun B G H σ S0 ρ O D R P q kn kr kb kc =>
  h B G H σ ρ _ _ R q fun vs G1 H1 ρ1 rs S1 R1 rr q1 => by
    obtain ⟨ρ2, e, q1⟩ := ok_some q1
    have hl := rr.length.trans (puts_len e)
    refine ⟨by rw [hl]; exact hn, fun p hp => ⟨p, vs, rfl, Or.inl (Or.inl upd_same), hl, gs_setAll hl ?_⟩⟩
    have gp : G1 p = none := R1.gh.free R1.tb hp
    have nB : ¬ B p := fun z => (R1.bh p z).no hp
    have nS : ∀ (i : Nat) (u : OD), ρ1[i]? = some (SD.own u) → σ[i]? ≠ some (some (V.ref p)) := fun i u hi hz => by
      obtain ⟨q, hq, h1, h2, _⟩ := R1.own i u hi
      rw [hz] at h1; cases h1; rw [hp] at h2; cases h2
    have R1' : Rep K B G1 (upd H1 p (.tup vs)) σ ρ1 := R1.aside (.inl hp) gp nB nS
    have R2 := rep_puts R1' (rr.aside hp) e
    exact kn G1 _ _ ρ2 (S1.trans ⟨Ex.refl _, fun _ _ h => h, fun _ _ h => h, fun a o hb h _ => by rw [upd_ne (nb_ne nB hb)]; exact h, fun _ _ _ _ _ => rfl⟩) R2 (P.setAll hi) q1
theorem ds_putsT {T : Nat → Bool} {is : List Nat} {ts es : List Expr} {ta : TA} {wa : Wa} {kt k2 : Nat} {pt pt2 : Pos} (hT : is.all (fun i => !T i) = true) (hz : is.length ≤ 100) (hc : X.calm = true) (hg : PGs X ts (gsNames is)) (ha : DAh X es ta wa)
    (hn : (assignEach ts X.env).length = is.length := by rfl) (hst : (assignEach ts X.env).findIdx? (·.1) = none := by rfl)
    (hs : swapsWithSole [.Tuple ts kt pt] (.Tuple es k2 pt2) pos.line X.env = pure false := by rfl) (hw : swappedStores [.Tuple ts kt pt] (.Tuple es k2 pt2) X.env = pure none := by rfl) (h1 : (assignEach [.Tuple ts kt pt] X.env).map (·.2) = [assign (.Tuple ts kt pt) X.env] := by rfl) :
    DS X T (.Assign [.Tuple ts kt pt] (.Tuple es k2 pt2) pos) (tAsg (tTup ta) (gTup X.K is.length (gsNames is))) (wPuts is wa) :=
  ⟨ps_asg (pe_tup ha.pa) (pg_tup hc hg hn hst) hs hw h1, ws_putsT hT (Nat.le_trans hz (by rw [sizeLine_eq]; decide)) ha.wa⟩
/-! ### the same with the written part by its own name (in a comprehension the context is not known yet when the reading is) -/
variable {a b : Expr} {ta tb : TE} {wa wb : We}
theorem de_addK {KF : PySem.W.Frag} (ha : DE X a ta wa) (hb : DE X b tb wb) (hK : X.cx.K = KF := by rfl) : DE X (.BinOp a .Add b pos) (tOp (rAdd4 KF) ta tb) (wBin dAdd wa wb) := by
  subst hK; exact de_add ha hb
theorem de_ixK {KF : PySem.W.Frag} (ha : DE X a ta wa) (hb : DE X b tb wb) (hK : X.cx.K = KF := by rfl) (hs : PlainIx b := by intro _ _; rfl) : DE X (.Subscript a b pos) (tOp (rIx KF) ta tb) (wBin dIx wa wb) := by
  subst hK; exact de_ix ha hb hs
theorem dc_eqK {KF : PySem.W.Frag} (hu : X.cx.A.units + 64 < cLine) (hK : X.cx.K = KF := by rfl) : DC X .Eq (rEqD KF) dEq := by
  subst hK; exact dc_eq hu
theorem dc_neK {KF : PySem.W.Frag} (hu : X.cx.A.units + 64 < cLine) (hK : X.cx.K = KF := by rfl) : DC X .NotEq (rOr rNeDA (rNeD KF)) dNeX := by
  subst hK; exact dc_neX hu
theorem dc_inK {KF : PySem.W.Frag} (hK : X.cx.K = KF := by rfl) : DC X .In (rIn KF false) (dIn false) := by
  subst hK; exact dc_in
theorem dc_notInK {KF : PySem.W.Frag} (hK : X.cx.K = KF := by rfl) : DC X .NotIn (rIn KF true) (dIn true) := by
  subst hK; exact dc_notIn
end
end DL

set_option Elab.async false
set_option linter.all false
set_option maxRecDepth 100000
set_option maxHeartbeats 2000000
namespace DL
open PySem L2 PySem.Spec PyProof.Rows
/-! ### enumerate of a tuple -/
/-- an iterator of a tuple that is at its end -/
theorem draws_end {prog : Program} {w : World} {A : Around} (hh : A.handled = none) (it t : Addr) (items : Array Value) (i : Nat) (hi : items[i]? = none) (hne : t ≠ it) :
    Draws prog w A it [it, t] i (fun _ _ => True) (fun j h => j = i ∧ h.IsTupleIter it t i ∧ h.IsTuple t items) where
  live := fun _ _ st => let ⟨o, ho, _⟩ := st.2.1; ⟨o, ho⟩
  frame := fun _ _ _ st hk => ⟨st.1, st.2.1.at fun o e => hk it (by simp) o e, st.2.2.at fun o e => hk t (by simp) o e⟩
  item := fun j s Q E hj st hQ => absurd st.1 (by omega)
  done := fun s Q E st hE => wpAny_nextOf_tuple_end hh st.2.1 st.2.2 hi hE
/-- the object that enumerate makes of what begins as o -/
def enO (a : Addr) : Obj := { cls := .type "enumerate", data := .fields #[.none, .bool false, .ref a, rawInt 0, .none, .none] }
theorem meets_en {v : Value} {o : Obj} {H : Heap → Prop} (B : Begins v o H) : Meets (Builtin.«enumerate.__new__» ⟨[.type "enumerate", v], []⟩) (fun _ R s => H s.heap ∧ R (.ok (.ret (.ref (s.heap.push o).objs.size))) { s with heap := (s.heap.push o).push (enO s.heap.objs.size) }) :=
  .of_wp fun prog w A R s hs => by
    obtain ⟨hp, g, d, tk, os⟩ := s; obtain ⟨hH, hR⟩ := hs; have sb := sub_enumerate
    have begin1 : ∀ {A' : Around} {E Q : Value → Shared → Prop}, Q (.ref hp.objs.size) ⟨hp.push o, g, d, tk, os⟩ → wpAny (model prog w) A' (pyIter v) Q E ⟨hp, g, d, tk, os⟩ := fun q => B.iter prog w _ _ ⟨hp, g, d, tk, os⟩ _ hH q
    wp_walk using begin1
    refine wpAny_stack_any fun st0 => wpAny_pure ?_; split
    · rename_i c _ _ _ _ _; cases (c == Value.type "enumerate") <;> (wp_walk using begin1; exact ⟨_, rfl, hR⟩)
    · wp_walk using begin1; exact ⟨_, rfl, hR⟩
theorem call_en {prog : Program} {w : World} {A : Around} {E : Value → Shared → Prop} {s : Shared} {v : Value} {o : Obj} {H : Heap → Prop} {Q : Value → Shared → Prop} (B : Begins v o H) (hH : H s.heap)
    (k : ∀ h', IsEnum h' (s.heap.objs.size + 1) s.heap.objs.size 0 .none → h'.get? s.heap.objs.size = some o → (∀ b u, s.heap.get? b = some u → h'.get? b = some u) → Q (.ref (s.heap.objs.size + 1)) { s with heap := h' }) : wpAny (model prog w) A (call (.type "enumerate") [v]) Q E s := by
  refine callType_new F.called_enumerate (by decide) (F.typeCall_enumerate_1 v) (F.newCall_enumerate_1 v) (fun obj => F.args_object_init_2 obj v) F.entry_enumerate_new (meets_en B) ⟨hH, ?_⟩
  have sz : (s.heap.push o).objs.size = s.heap.objs.size + 1 := Heap.size_push ..
  have e1 : ((s.heap.push o).push (enO s.heap.objs.size)).get? (s.heap.objs.size + 1) = some (enO s.heap.objs.size) := by rw [← sz]; exact Heap.get?_push_size (s.heap.push o) rfl
  show _ ∧ _
  rw [sz]
  exact ⟨⟨_, e1, rfl⟩, k _ e1 (Heap.get?_push_of_some _ (Heap.get?_push_size _ B.free)) fun b u x => Heap.get?_push_of_some _ (Heap.get?_push_of_some _ x)⟩
def IteT (K : PySem.W.Frag) (a : Addr) : It :=
  ⟨fun i H => ∃ (xs : List V) (x : V), SqT K H a xs ∧ xs[i]? = some x, fun i H v H' => ∃ t x, v = .ref t ∧ H t = none ∧ H' = upd H t (.tup [.int (i : Nat), x]) ∧ ∀ xs, SqT K H a xs → xs[i]? = some x, fun i H => ∃ xs : List V, SqT K H a xs ∧ xs.length ≤ i⟩
/-- how a turn of enumerate over the tuple at a stands: e the enumerate, it its iterator -/
def EnSt (a e it : Addr) (i : Nat) (h : Heap) : Prop := (∃ old, IsEnum h e it ((i : Nat) : Int) old) ∧ h.IsTupleIter it a i ∧ e ≠ it ∧ e ≠ a ∧ a ≠ it
theorem turn_en {P : Program} {w : World} {K : PySem.W.Frag} {elts : List Expr} {kk : Nat} {tpos : Pos} (a e it : Addr) : Turn P w K (.Tuple elts kk tpos) (IteT K a) [e, it] e (EnSt a e it) where
  mem := by simp
  obj := fun i h st b hb => by
    obtain ⟨⟨old, he⟩, ⟨o, ho, hc, hd⟩, _⟩ := st
    rcases (show b = e ∨ b = it by simpa using hb) with rfl | rfl
    · exact ⟨_, he, fun v q => nomatch q⟩
    · exact ⟨o, ho, fun v q => by rw [hd] at q; cases q⟩
  keep := fun i h h' st k => let ⟨⟨old, he⟩, hi, hn⟩ := st; ⟨⟨old, k e (by simp) _ he⟩, hi.at fun o q => k it (by simp) o q, hn⟩
  item := by
    intro X hP hw hK hc i pins s σ H E I hf st hg
    subst hP hw hK
    obtain ⟨⟨old, he⟩, hit, hne, hea, hai⟩ := st
    obtain ⟨xs, x, hq, hx⟩ := hg
    obtain ⟨its, rv, tp, _⟩ := I.tuple hq
    obtain ⟨u, hu, ru⟩ := rv.get hx
    have hus : its.toArray[i]? = some u := by simpa using hu
    have hlt : i < its.toArray.size := (Array.getElem?_eq_some_iff.mp hus).1
    have hel : e < s.heap.objs.size := Heap.lt_size he
    have hil : it < s.heap.objs.size := by obtain ⟨_, q, _⟩ := hit; exact Heap.lt_size q
    have D : Draws X.prog X.w X.A.in1 it [it, a] its.toArray.size (fun i v => its.toArray[i]? = some v) (fun i h => h.IsTupleIter it a i ∧ h.IsTuple a its.toArray) := Draws.tuple (show X.A.in1.handled = none from I.ok.hd hc) it a hai its.toArray
    refine PySem.wpAny_pyNext_enum_itemC D he ⟨hit, tp⟩ hlt hne (by simp [hne, hea]) fun x' h' tk hx' ho hst hT hsz hk => ?_
    have ex : x' = u := by have := hx'.symm.trans hus; exact Option.some.inj this
    subst ex
    refine ⟨_, rfl, wpAny_letOwnedTupleGo_enum (s := { s with heap := h', toks := tk + 1 }) ho fun h'' he' sb => ?_⟩
    have hT2 : h''.get? s.heap.objs.size = some { cls := .type "tuple", data := .seq #[.int i tk, x'] } := (sb.2 _ (Nat.ne_of_gt hel)).trans hT
    have new : ObjOk X.prog X.w (upd H s.heap.objs.size (.tup [.int (i : Nat), x])) h'' s.heap.objs.size (.tup [.int (i : Nat), x]) := ⟨by show 2 ≤ sizeLine; decide, [.int i tk, x'], .cons ⟨_, rfl⟩ (.cons ru .nil), ⟨_, hT2, rfl, _, rfl⟩⟩
    have I1 : Inv X pins σ (upd H s.heap.objs.size (.tup [.int (i : Nat), x])) { s with heap := h'', toks := tk + 1 } :=
      I.turnedNew (t' := tk + 1) (ch := [e, it]) (fun b ob hb q => (sb.2 b (fun z => hb (by simp [z]))).trans (hk b ob (fun z => hb (by simp [z])) (fun z => hb (by simp [z])) q)) hf (Nat.le_refl _) new
    have e1 : ((i + 1 : Nat) : Int) = (i : Int) + 1 := by omega
    refine ⟨.ref s.heap.objs.size, _, I1, rfl, ⟨_, x, rfl, I.hok.fresh (Nat.le_refl _), rfl, fun ys hy => by rw [I.tuple_inj hy hq]; exact hx⟩, ⟨⟨x', by rw [e1]; exact he'⟩, hst.1.at fun o q => (sb.2 it (Ne.symm hne)).trans q, hne, hea, hai⟩, fun b hb => ?_⟩
    have hbl : b < s.heap.objs.size := by rcases (show b = e ∨ b = it by simpa using hb) with rfl | rfl <;> assumption
    rw [upd_ne (Nat.ne_of_lt hbl)]; exact (hf b hb).1
  done := by
    intro X hP hw hK hc i pins s σ H E I hf st hg
    subst hP hw hK
    obtain ⟨⟨old, he⟩, hit, hne, hea, hai⟩ := st
    obtain ⟨xs, hq, hx⟩ := hg
    obtain ⟨its, rv, tp, _⟩ := I.tuple hq
    obtain ⟨f0, f1, f2, f3, f4, f5⟩ := hf it (by simp)
    have hl := rv.length
    have D := draws_end (prog := X.prog) (w := X.w) (A := X.A.in1) (show X.A.in1.handled = none from I.ok.hd hc) it a its.toArray i (by simp; omega) hai
    exact wpAny_pyNext_enum_endD D he ⟨rfl, hit, tp⟩ fun h' eb => ⟨rfl, I.turned (t' := s.toks) (fun b o hb q => eb b o hb q) f0 f1 f3 f4 f5⟩
  self := fun A i s Q E st h => let ⟨⟨_, he⟩, _⟩ := st; wpAny_pyIter_enum he h
/-- what enumerate goes over: a list, or a tuple -/
def iEnumX (K : PySem.W.Frag) (ta : TA) : TI := fun σ H R => ta σ H fun vs H1 => ∃ a xs, vs = [.ref a] ∧ ((SqL K H1 a xs ∧ R (Ite K a) H1) ∨ (SqT K H1 a xs ∧ R (IteT K a) H1))
theorem pi_enumX {X : Cx} {e : Expr} {ta : TA} {p pos tpos : Pos} {elts : List Expr} {kk : Nat} (hm : X.mg "enumerate" = none) (ha : PA X [e] ta) (hg : Gl X "enumerate" := by rfl) (hs : starEach [e] X.env = [(false, eval e X.env)] := by rfl) : PI X (.Tuple elts kk tpos) (.Call (.Name "enumerate" p) [e] [] pos) (iEnumX X.K ta) := by
  refine ⟨fun pins s σ H R I hh => ?_⟩
  refine Call_ (ld_blt I hg hm boot_enumerate (PyProof.Rows.callWith_type1 (thn (ha.run pos pins s σ H _ I hh) fun us s1 ⟨vs, H1, I1, r1, a, xs, ev, hq⟩ => ?_) hs rfl))
  subst ev
  cases r1 with
  | cons r rr =>
    cases rr; cases r
    have fp : ∀ b ∈ [s1.heap.objs.size + 1, s1.heap.objs.size], s1.heap.objs.size ≤ b := fun b hb => by rcases (show b = s1.heap.objs.size + 1 ∨ b = s1.heap.objs.size by simpa using hb) with rfl | rfl <;> omega
    rcases hq with ⟨hq, q⟩ | ⟨hq, q⟩
    · obtain ⟨its, rv, lp, _⟩ := I1.list hq
      refine call_enumerate_list lp.isList fun h' he hit hz hk => wpAny_pyIter_enum he ⟨s1.heap.objs.size + 1, [s1.heap.objs.size + 1, s1.heap.objs.size], _, _, H1, rfl, I1.kept (t' := s1.toks) hk, turn_enum a (s1.heap.objs.size + 1) s1.heap.objs.size, ⟨⟨.none, he⟩, hit, Nat.succ_ne_self _⟩, fun b hb => I1.fpOk (fp b hb) (I1.hok.fresh (fp b hb)), q⟩
    · obtain ⟨its, rv, tp, _⟩ := I1.tuple hq
      have al : a < s1.heap.objs.size := by obtain ⟨_, q, _⟩ := id tp; exact Heap.lt_size q
      refine call_en (begins_tuple a its.toArray) tp fun h' he ho hk => wpAny_pyIter_enum he ⟨s1.heap.objs.size + 1, [s1.heap.objs.size + 1, s1.heap.objs.size], _, _, H1, rfl, I1.kept (t' := s1.toks) hk, turn_en a (s1.heap.objs.size + 1) s1.heap.objs.size, ⟨⟨.none, he⟩, ⟨_, ho, rfl, rfl⟩, Nat.succ_ne_self _, (Nat.ne_of_lt (Nat.lt_succ_of_lt al)).symm, Nat.ne_of_lt al⟩, fun b hb => I1.fpOk (fp b hb) (I1.hok.fresh (fp b hb)), q⟩
section
variable {K : KT}
theorem it_enumT {G0 : Hp} {q : Addr} {vs : List V} {ds : List PD} (hG : ∀ G H, Ex G0 G → Ex G H → SqT K H q vs) (r : RpAll K G0 vs ds) : ItOk K G0 (IteT K q) (enumP ds) := fun B σ ρ G H e R => by
  have hq := hG G H e R.gh
  have hl : (enumP ds).length = ds.length := by unfold enumP; rw [List.length_mapIdx]
  refine ⟨fun i hi => ⟨vs, hq, by rw [r.length, ← hl]; exact hi⟩, fun i d hd => ?_⟩
  unfold enumP at hd
  rw [List.getElem?_mapIdx] at hd
  cases hx : ds[i]? with
  | none => rw [hx] at hd; cases hd
  | some x =>
    rw [hx] at hd
    cases hd
    obtain ⟨v, hv, rv⟩ := r.get hx
    refine ⟨⟨vs, v, hq, hv⟩, fun y H' ⟨t, w, ey, ht, eH, hw⟩ => ?_⟩
    have := hw vs hq
    rw [hv] at this; cases this
    subst ey; subst eH
    exact fresh_tup R ht (.cons (.int _) (.cons (rv.mono e) .nil))
def wEnumX (wa : Wa) : Wi := fun ρ Q => wa ρ fun rs ρ1 => frz rs ρ1 fun ds ρ2 => match ds with
  | [.lst xs] => Q (enumP xs) ρ2
  | [.scr ns] => Q (enumP (ns.map .int)) ρ2
  | [.tup xs] => Q (enumP xs) ρ2
  | _ => False
theorem wi_enumX {t : TA} {wa : Wa} (h : WAa K t wa) : WIi K (iEnumX K t) (wEnumX wa) := fun B G H σ ρ Q QJ R q k =>
  h B G H σ ρ _ _ R q fun vs G1 H1 ρ1 rs S1 R1 rr q1 => by
    obtain ⟨⟨ds, ρ2⟩, e, q1⟩ := ok_some q1
    obtain ⟨G2, S2, R2, ra⟩ := frz_all R1 rr e
    match ds, ra, q1 with
    | [.lst xs], ra, q1 =>
      obtain ⟨w, ew, rw'⟩ := ra.one
      cases ew
      cases rw' with
      | lst hg r => exact ⟨_, _, rfl, .inl ⟨SqL.of (R2.gh _ _ hg nt_lst), k _ G2 H1 ρ2 _ (S1.trans S2) R2 (it_enum (fun G' H' e e' => SqL.of (e' _ _ (e _ _ hg nt_lst) nt_lst)) r) q1⟩⟩
    | [.scr ns], ra, q1 =>
      obtain ⟨w, ew, rw'⟩ := ra.one
      cases ew
      cases rw' with
      | scr hg => exact ⟨_, _, rfl, .inl ⟨ex_l R2.gh hg, k _ G2 H1 ρ2 _ (S1.trans S2) R2 (it_enum (fun G' H' e e' => ex_l e' (ex_l e hg)) (rp_ints ns)) q1⟩⟩
    | [.tup xs], ra, q1 =>
      obtain ⟨w, ew, rw'⟩ := ra.one
      cases ew
      cases rw' with
      | tup hg r => exact ⟨_, _, rfl, .inr ⟨ex_t R2.gh hg, k _ G2 H1 ρ2 _ (S1.trans S2) R2 (it_enumT (fun G' H' e e' => ex_t e' (ex_t e hg)) r) q1⟩⟩
theorem di_enumX {X : CxT} {e : Expr} {t : TA} {wa : Wa} {elts : List Expr} {kk : Nat} {p pos tpos : Pos} (hm : X.mg "enumerate" = none) (ha : DA X [e] t wa) (hg : Gl X "enumerate" := by rfl) (hs : starEach [e] X.env = [(false, eval e X.env)] := by rfl) :
    DI X (.Tuple elts kk tpos) (.Call (.Name "enumerate" p) [e] [] pos) (iEnumX X.K t) (wEnumX wa) := ⟨pi_enumX hm ha.pa hg hs, wi_enumX ha.wa⟩
end
end DL

set_option Elab.async false
set_option linter.all false
set_option maxRecDepth 100000
set_option maxHeartbeats 2000000
namespace DL
open PySem L2
/-! ### raise C(e) -/
theorem upd_raised {H : Hp} {a d : Addr} {x y z u : HO} (hda : d ≠ a) (ha : H a = none) : upd (del (upd (upd (upd H a x) d y) a z) a) d u = upd H d u := by
  funext b
  by_cases hd : b = d
  · subst hd; rw [upd_same, upd_same]
  · rw [upd_ne hd, upd_ne hd]
    by_cases hb : b = a
    · subst hb; rw [del_same, ha]
    · rw [del_ne hb, upd_ne hb, upd_ne hd, upd_ne hb]
def wRaise (C : Addr) (Ξ : Xp) (wa : Wa) : Ws := fun O ρ => wa ρ fun rs ρ1 => frz rs ρ1 fun ds _ => match ds with
  | [d] => Ξ C d
  | _ => False
section
variable {X : CxT} {K : KT} {T : Nat → Bool} {e : Expr} {p pos pos' : Pos} {x : Str} {C fI : Addr}
theorem ds_raise {k : Nat} {ta : TA} {wa : Wa} (E : Erc X.prog X.w X.cx.K X.mg X.base k x C fI) (hr : Room (k + 1) X.A) (hc : X.calm = true) (ha : DA X [e] ta wa) (hg : Gl X x := by rfl)
    (hdb : (x == ("__debug__" : Str)) = false := by decide) (he : starEach (e :: []) X.env = (false, eval e X.env) :: starEach [] X.env := by rfl) (hpl : (backTo pos (starEach [] X.env)).any (·.1) = false := by rfl) :
    DS X T (.Raise (some (.Call (.Name x p) [e] [] pos)) none pos') (fun _ σ H => tMkO C (spErr X.cx.K) [] ta σ H fun cls d H' => X.W cls d σ H') (wRaise C X.Ξ wa) := by
  obtain ⟨fd, h1, T1, h3, h4⟩ := E.ex
  refine ⟨ps_raise hc X.tk (pmk_oex T1.oex T1.iC T1.tI h3 hr h4 .nil pass0 hg h1 ha.pa hdb he hpl), fun B G H σ S0 ρ O D R P q kn kr kb kc => ?_⟩
  refine ha.wa B G H σ ρ _ _ R q fun vs G1 H1 ρ1 rs S1 R1 rr q1 => ?_
  obtain ⟨⟨ds, ρ2⟩, e, q1⟩ := ok_some q1
  obtain ⟨G2, S2, R2, ra⟩ := frz_all R1 rr e
  match ds, ra, q1 with
  | [dv], ra, q1 =>
    obtain ⟨v, rfl, rv⟩ := ra.one
    refine ⟨by show 1 ≤ 1000; decide, fun a na => ⟨a, C, v, rfl, T1.oex, T1.no, upd_same, fun d hd hda => ?_⟩⟩
    have nd : H1 d = none := by rw [upd_ne hda] at hd; exact hd
    refine ⟨rfl, d, [(("value" : Str), v)], upd_same, by rw [upd_ne hda]; exact upd_same, nd, ?_⟩
    rw [upd_raised hda na]
    obtain ⟨S3, R3⟩ := rep_add R2 nd (o := .xd [(("value" : Str), v)]) nt_xd
    exact X.lk _ _ σ C d _ v dv R3.z.s (fun a h => R3.bh a (R3.z.b a h)) R3.tb R3.gh upd_same upd_same (by simp [List.lookup]) (rv.mono S3.g) q1
end
/-! ### try .. except X as n -/
/-- an exception that was caught -/
def exA (a : Addr) (cls : Value) (d : Option Addr) : HO := .ext fun h => ∃ (oe : Obj) (vs : Array Value), h.get? a = some oe ∧ Zc cls d oe ∧ oe.data = .fields vs
/-- the context of an except suite that knows the exception -/
abbrev hotC (X : Cx) (a : Addr) : Cx := { X with A := X.A.mark (some (.ref a)), calm := false, xe := fun _ _ => False }
section
variable {X : Cx} {pins : List (Addr × Obj)} {σ : L2.St} {H : Hp} {s : Shared} {a : Addr}
theorem ok_hot (k : X.Ok) : (hotC X a).Ok := { mod := k.mod, kind := k.kind, glob := k.glob, blt := k.blt, above := k.above, inj := k.inj, has := k.has, cab := k.cab, hd := (fun z => nomatch (show false = true from z)), frames := k.frames, stk := k.stk, exf := k.exf, bs := k.bs, bsz := k.bsz, noex := k.noex, exfs := k.exfs, funs := k.funs, frf := k.frf }
theorem inv_unhot (J : L2.Inv (hotC X a) pins σ H s) (k : X.Ok) : L2.Inv X pins σ H s := { ok := k, os := J.os, bare := J.bare, base := J.base, loc := J.loc, cell := J.cell, free := J.free, freeC := J.freeC, pin := J.pin, hok := J.hok, len := J.len }
theorem inv_hot {oe : Obj} {vs : Array Value} {cls : Value} {d : Option Addr} (J : L2.Inv X pins σ H s) (he : s.heap.get? a = some oe) (hz : Zc cls d oe) (hd : oe.data = .fields vs) (na : H a = none) (nL : a ≠ X.env.locals)
    (n0 : X.s_0.heap.get? a = none) (np : ∀ p ∈ X.pn ++ pins, p.1 ≠ a) : L2.Inv (hotC X a) pins σ (upd H a (exA a cls d)) s := by
  have other : ∀ {b : Addr} {u : HO}, H b = some u → b ≠ a := fun {b u} h z => by rw [z, na] at h; cases h
  have old : ∀ {b : Addr} {o : Obj}, X.s_0.heap.get? b = some o → b ≠ a := fun {b o} h z => by rw [z, n0] at h; cases h
  refine { ok := ok_hot J.ok, os := J.os, bare := J.bare, base := ?_, loc := J.loc, cell := J.cell, free := ?_, freeC := fun y c hc => ?_, pin := fun p hp => ?_, hok := fun b u hb => ?_, len := J.len }
  · exact { keep := J.base.keep, slot := J.base.slot, there := J.base.there
            free := fun b o hb n hx => by rw [upd_ne (old hb)]; exact J.base.free b o hb n hx
            tups := fun b xs hb => by have z := J.base.tups b xs hb; rw [upd_ne (other z)]; exact z
            frzs := fun b o u hb => by have z := J.base.frzs b o u hb; rw [upd_ne (other z)]; exact z
            tbls := fun b ps hb => by obtain ⟨more, z⟩ := J.base.tbls b ps hb; exact ⟨more, by rw [upd_ne (other z)]; exact z⟩ }
  · rw [upd_ne nL.symm]; exact J.free
  · have hne : c ≠ a := fun z => by
      obtain ⟨w, o, ho, hdat⟩ := J.cell y c hc
      rw [z, he] at ho; cases ho
      rw [hd] at hdat; cases hdat
    rw [upd_ne hne]; exact J.freeC y c hc
  · obtain ⟨p1, p2, p3⟩ := J.pin p hp
    exact ⟨p1, by rw [upd_ne (np p hp)]; exact p2, p3⟩
  · by_cases hb' : b = a
    · subst hb'
      rw [upd_same] at hb; cases hb
      refine ⟨⟨oe, vs, he, hz, hd⟩, ⟨oe, he⟩, fun h1 h2 hx hk => ?_⟩
      obtain ⟨o1, v1, q1, q2, q3⟩ := hx
      exact ⟨o1, v1, hk _ q1, q2, q3⟩
    · rw [upd_ne hb'] at hb
      exact (J.hok b u hb).stay (fun _ _ _ r => r) (fun c r => by rw [upd_ne (other r)]; exact r) (fun c xs r => by rw [upd_ne (other r)]; exact r)
end
/-- the suite's ends: the name goes -/
def endsOut (i : Nat) (D : Ends) : Ends := { nx := fun σ' H' => D.nx (σ'.set i none) H', rt := D.rt, bk := fun σ' H' => D.bk (σ'.set i none) H', ct := fun σ' H' => D.ct (σ'.set i none) H' }
def wHot (KF : PySem.W.Frag) (c : Value) (i : Nat) (ts : TS) (D : Ends) : WX := fun cls d σ H => PySem.W.exmOne KF cls c = some true ∧ ∀ a, H a = none → ts (endsOut i D) (σ.set i (some (.ref a))) (upd H a (exA a cls d))
section
variable {X : Cx} {x n : Str} {c : Value} {i : Nat} {body suite : List Stmt} {s0 : Stmt} {np pos pos' : Pos} {tb : WX → TS} {ts : TS}
theorem ps_try_hot (hs : X.stack = X.env :: X.outer) (hf : X.env.frame = some X.env.locals) (hex : X.ex = []) (hN : X.N.Nodup) (hi : X.N[i]? = some n) (hl : X.env.kindOf n = some .local) (hc : Names X x c)
    (hb : ∀ (W : WX) (pn : List (Addr × Obj)) (xe : Value → Shared → Prop), Takes (X.tr pn xe) W → PassesOwn (model X.prog X.w) X.A X.env xe → PSs (X.tr pn xe) body (tb W))
    (hsu : ∀ a : Addr, PSs (hotC X a) (s0 :: suite) ts) :
    PS X (.Try body [.ExceptHandler (some (.Name x np)) (some n) (s0 :: suite) pos'] [] [] pos) (fun D σ H => tb (wHot X.K c i ts D) D σ H) := by
  constructor
  intro pins s σ H D I h
  have ok := I.ok
  have frs1 : X.A.frames = some (X.env :: X.outer) := ok.frames.trans (by rw [hs])
  refine wpAny_Try_except ?_
  refine wpAny_mono ((hb (wHot X.K c i ts D) (X.pn ++ pins) _ (fun u s' xx => ?_) PassesOwn.looking).run [] s σ H D (I.toTry _) h) (fun f s1 hsp => ?_) (fun e s1 he => he)
  · obtain ⟨a, Bg, sI, pins', σ', H', cls, d, rfl, J', nb, up, sky, na, os, ag, hb1, hyes⟩ := xx
    have J : L2.Inv X pins σ' H' sI := J'.ofTry ok
    have sky2 : Sky Bg (X.env :: X.outer) a (Zc cls d) X.env.locals s'.heap := hs ▸ sky
    show wpAny (model X.prog X.w) X.A (noteFrame (.ref a) X.env) _ _ _
    refine Sky.land Zc.steady frs1 hf sky2 fun h3 fl3 up3 => ?_
    have J3 : L2.Inv X pins σ' H' { s' with heap := h3 } := J.landed nb fl3.1 (up.trans up3) os ag
    obtain ⟨oe3, vs3, he3, hz3, hd3⟩ := fl3.there
    have nfr : a ∉ frs (X.env :: X.outer) := fun hm => by
      obtain ⟨_, o', e', hnf⟩ := fl3.2.2.1.mem hm
      rw [he3] at e'; cases e'
      exact hnf _ hd3
    have nL : a ≠ X.env.locals := fun z => nfr (List.mem_filterMap.mpr ⟨X.env, List.mem_cons_self, by rw [hf, z]⟩)
    have nF : a ∉ X.fs := fun hm => by
      obtain ⟨e, h1, h2⟩ := List.mem_filterMap.mp hm
      exact nfr (List.mem_filterMap.mpr ⟨e, List.mem_cons_of_mem _ h1, h2⟩)
    have nstk : a ∉ frs X.stack := by rw [hs]; exact nfr
    have notG : ∀ o, sI.heap.get? a ≠ some o := fun o z => by
      have z1 := nb a o z nstk
      rw [fl3.2.1] at z1; cases z1
    have n0 : X.s_0.heap.get? a = none := by
      cases e0 : X.s_0.heap.get? a with
      | none => rfl
      | some o =>
        obtain ⟨o', z⟩ := J.base.there a o e0 (by rw [hex]; exact List.not_mem_nil)
        exact absurd z (notG o')
    have npin : ∀ p ∈ X.pn ++ pins, p.1 ≠ a := fun p hp z => by
      have := (J.pin p hp).1
      rw [z] at this
      exact notG _ this
    have K3 := inv_hot J3 he3 hz3 hd3 na nL n0 npin
    refine wpAny_handleBy_cons (codeAny_handlers_test ?_) (by intro q; cases q)
    have LT : PySem.W.Looks (model X.prog X.w) h3 (typeOf (.ref a)) cls := fun A Q E s k q => wpAny_typeOf_ref (k _ _ he3) (by rw [hz3.1]; exact q)
    have LM := PySem.W.exm_one (M := model X.prog X.w) J3.kIn LT hb1
    have test : ∀ {Q : Value → Shared → Prop} {E : Value → Shared → Prop}, Q c { s' with heap := h3 } → wpAny (model X.prog X.w) (X.A.mark (some (.ref a))) (eval (.Name x np) X.env) Q E { s' with heap := h3 } := fun {Q E} q => by
      obtain ⟨hg, hdbg, hm | ⟨hm, hv, hnn⟩⟩ := hc
      · exact ld_glob (X := hotC X a) K3 hg hm q hdbg
      · exact ld_blt (X := hotC X a) K3 hg hm hv q hnn hdbg
    refine test (LM.here ?_)
    refine codeAny_handlers_suite_as ?_
    refine HandSPX.lands_againZ fl3 fun h4 fl4 up4 => ?_
    have J4 : L2.Inv X pins σ' H' { s' with heap := h4 } := J.landed nb fl4.1 ((up.trans up3).trans up4) os ag
    obtain ⟨oe4, vs4, he4, hz4, hd4⟩ := fl4.there
    have K4 := inv_hot J4 he4 hz4 hd4 na nL n0 npin
    refine store_ok (X := hotC X a) (v := .ref a) K4 hN hi (.inl hl) rfl (fun s5 K5 => ?_) (.inr hl)
    refine wpAny_mono ((hsu a).run pins s5 _ _ (endsOut i D) K5 (hyes a na)) (fun f s6 hsp => ?_) (fun _ _ z => False.elim z)
    have fin : ∀ {σ6 : L2.St} {H6 : Hp} {Q : Shared → Prop}, L2.Inv (hotC X a) pins σ6 H6 s6 → (∀ s7, L2.Inv X pins (σ6.set i none) H6 s7 → Q s7) →
        wpAny (model X.prog X.w) X.A (do bindName X.env n .none; unbindBehindTheSuite X.env n pos') (fun _ s7 => Q s7) X.xe s6 := fun {σ6 H6 Q} K6 hq => gone_ok (inv_unhot K6 ok) hN hi hl hq
    cases f with
    | next => obtain ⟨σ6, H6, K6, q6⟩ := hsp; exact fin K6 fun s7 J7 => ⟨_, _, J7, q6⟩
    | brk => obtain ⟨σ6, H6, K6, q6⟩ := hsp; exact fin K6 fun s7 J7 => ⟨_, _, J7, q6⟩
    | cont => obtain ⟨σ6, H6, K6, q6⟩ := hsp; exact fin K6 fun s7 J7 => ⟨_, _, J7, q6⟩
    | ret u => obtain ⟨v6, σ6, H6, K6, r6, q6⟩ := hsp; exact fin K6 fun s7 J7 => ⟨_, _, _, J7, r6, q6⟩
  · cases f with
    | next => obtain ⟨σ', H', J', q⟩ := hsp; exact wpAny_execs_nil ⟨σ', H', J'.ofTry ok, q⟩
    | brk => obtain ⟨σ', H', J', q⟩ := hsp; exact ⟨σ', H', J'.ofTry ok, q⟩
    | cont => obtain ⟨σ', H', J', q⟩ := hsp; exact ⟨σ', H', J'.ofTry ok, q⟩
    | ret u => obtain ⟨v, σ', H', J', r, q⟩ := hsp; exact ⟨v, σ', H', J'.ofTry ok, r, q⟩
end
end DL

set_option Elab.async false
set_option linter.all false
set_option maxRecDepth 100000
set_option maxHeartbeats 2000000
namespace DL
open PySem L2
/-! ### own things, hidden while others may be changed -/
def SD.veil : SD → SD
  | .own _ => .emp
  | s => s
def hide (ρ : Sl) : Sl := ρ.map SD.veil
/-- all that is tracked -/
def All (H : Hp) : Addr → Prop := Tr H
section
variable {K : KT} {B : Addr → Prop} {G H G' H' : Hp} {σ σ' : L2.St} {ρ ρ' : Sl}
theorem hide_get {i : Nat} {s : SD} (h : (hide ρ)[i]? = some s) : (∃ o, ρ[i]? = some (SD.own o) ∧ s = .emp) ∨ (ρ[i]? = some s ∧ ∀ o, s ≠ .own o) := by
  unfold hide at h
  rw [List.getElem?_map] at h
  cases e : ρ[i]? with
  | none => rw [e] at h; cases h
  | some x =>
    rw [e] at h
    have h : x.veil = s := Option.some.inj h
    cases x with
    | emp => subst h; exact .inr ⟨rfl, fun o z => by cases z⟩
    | dat d => subst h; exact .inr ⟨rfl, fun o z => by cases z⟩
    | own o => subst h; exact .inl ⟨o, rfl, rfl⟩
theorem Rep.hide (R : Rep K B G H σ ρ) : Rep (K.at (All H) G H) (All H) G H σ (hide ρ) := by
  refine ⟨R.gh, R.tb, R.z.new, fun a h => h, by unfold DL.hide; rw [List.length_map]; exact R.len, fun i d h => ?_, fun i o h => ?_, fun i j o u p h => ?_⟩
  · rcases hide_get h with ⟨_, _, z⟩ | ⟨e, _⟩
    · cases z
    · exact R.dat i d e
  · rcases hide_get h with ⟨_, _, z⟩ | ⟨_, z⟩
    · cases z
    · exact absurd rfl (z o)
  · rcases hide_get h with ⟨_, _, z⟩ | ⟨_, z⟩
    · cases z
    · exact absurd rfl (z o)
/-- behind steps that kept all that was tracked -/
theorem Rep.over (R : Rep K B G H σ ρ) (S : Stp (All H) G H G' H') (b1 : ∀ a, All H a → Tr H' a) (gh : Ex G' H') (tb : Tb G' H') : Rep K B G' H' σ ρ := by
  refine ⟨gh, tb, R.z.step (S.weak R.bh), fun a h => b1 a (R.bh a h), R.len, fun i d h => ?_, fun i o h => ?_, R.sep⟩
  · obtain ⟨v, h1, h2⟩ := R.dat i d h
    exact ⟨v, h1, h2.mono S.g⟩
  · obtain ⟨p, ho, h1, h2, h3, h4, h5⟩ := R.own i o h
    have nh : All H p := ⟨_, h2, h5.nt⟩
    exact ⟨p, ho, h1, S.h p ho nh h2 h5.nt, (S.n p ho nh h2 h5.ow).trans h3, h4, h5.mono S.g⟩
/-- slots behind a part in which own things were hidden: those at asg were assigned there -/
def unhide (asg : List Nat) (ρ ρ1 : Sl) : Sl := ρ.mapIdx fun i s => if asg.contains i then ρ1.getD i .emp else s
theorem unhide_get {asg : List Nat} {ρ ρ1 : Sl} {i : Nat} {s : SD} (hl : ρ1.length = ρ.length) (h : (unhide asg ρ ρ1)[i]? = some s) : (asg.contains i = true ∧ ρ1[i]? = some s) ∨ (asg.contains i = false ∧ ρ[i]? = some s) := by
  unfold DL.unhide at h
  rw [List.getElem?_mapIdx] at h
  cases e : ρ[i]? with
  | none => rw [e] at h; cases h
  | some x =>
    rw [e] at h
    have h : (if asg.contains i then ρ1.getD i .emp else x) = s := Option.some.inj h
    cases c : asg.contains i with
    | true =>
      rw [if_pos c] at h
      have hi : i < ρ1.length := by rw [hl]; exact (List.getElem?_eq_some_iff.mp e).1
      rw [List.getD_eq_getElem?_getD, List.getElem?_eq_getElem hi] at h
      exact .inl ⟨rfl, by rw [List.getElem?_eq_getElem hi]; exact congrArg some h⟩
    | false => rw [if_neg (by rw [c]; decide)] at h; subst h; exact .inr ⟨rfl, rfl⟩
theorem Rep.unhide {asg : List Nat} {B1 : Addr → Prop} {G1 H1 : Hp} (R : Rep K B G H σ ρ) (S : Stp (All H) G H G' H') (R' : Rep (K.at B1 G1 H1) (All H) G' H' σ' ρ') (P : Pn (fun i => !asg.contains i) σ σ') (hl : ρ'.length = ρ.length) : Rep K B G' H' σ' (unhide asg ρ ρ') := by
  have R2 := R.over S R'.bh R'.gh R'.tb
  have same : ∀ i, asg.contains i = false → σ'[i]? = σ[i]? := fun i c => P i (by show (!asg.contains i) = true; rw [c]; rfl)
  have oldH : ∀ {i : Nat} {o : OD} {p : Addr}, ρ[i]? = some (SD.own o) → σ[i]? = some (some (V.ref p)) → All H p := fun {i o p} e e2 => by
    obtain ⟨q, hq, a1, a2, _, _, a5⟩ := R.own i o e
    rw [e2] at a1; cases a1
    exact ⟨_, a2, a5.nt⟩
  refine ⟨R2.gh, R2.tb, R2.z, R2.bh, by unfold DL.unhide; rw [List.length_mapIdx, ← hl]; exact R'.len, fun i d h => ?_, fun i o h => ?_, fun i j o u p h1 h2 h3 h4 => ?_⟩
  · rcases unhide_get hl h with ⟨_, e⟩ | ⟨c, e⟩
    · exact R'.dat i d e
    · rw [same i c]; exact R2.dat i d e
  · rcases unhide_get hl h with ⟨_, e⟩ | ⟨c, e⟩
    · obtain ⟨p, ho, a1, a2, a3, a4, a5⟩ := R'.own i o e
      exact ⟨p, ho, a1, a2, a3, fun z => a4 (R.bh p z), a5⟩
    · rw [same i c]; exact R2.own i o e
  · rcases unhide_get hl h1 with ⟨_, e1⟩ | ⟨c1, e1⟩
    · obtain ⟨q, hq, a1, _, _, a4, _⟩ := R'.own i o e1
      rw [h3] at a1; cases a1
      rcases unhide_get hl h2 with ⟨_, e2⟩ | ⟨c2, e2⟩
      · exact R'.sep i j o u p e1 e2 h3 h4
      · rw [same j c2] at h4
        exact absurd (oldH e2 h4) a4
    · rcases unhide_get hl h2 with ⟨_, e2⟩ | ⟨c2, e2⟩
      · obtain ⟨q, hq, a1, _, _, a4, _⟩ := R'.own j u e2
        rw [h4] at a1; cases a1
        rw [same i c1] at h3
        exact absurd (oldH e1 h3) a4
      · rw [same i c1] at h3
        rw [same j c2] at h4
        exact R.sep i j o u p e1 e2 h3 h4
theorem Rep.unset (R : Rep K B G H σ ρ) (i : Nat) : Rep K B G H (σ.set i none) (ρ.set i .emp) := by
  have get : ∀ (j : Nat) (s : SD), (ρ.set i .emp)[j]? = some s → s ≠ .emp → ρ[j]? = some s ∧ (σ.set i none)[j]? = σ[j]? := fun j s h hs => by
    by_cases z : j = i
    · subst z
      by_cases hl : j < ρ.length
      · rw [List.getElem?_set_self hl] at h; cases h; exact absurd rfl hs
      · rw [List.getElem?_eq_none (by rw [List.length_set]; omega)] at h; cases h
    · rw [List.getElem?_set_ne (Ne.symm z)] at h
      exact ⟨h, List.getElem?_set_ne (Ne.symm z)⟩
  refine ⟨R.gh, R.tb, R.z, R.bh, by rw [List.length_set, List.length_set]; exact R.len, fun j d h => ?_, fun j o h => ?_, fun j k o u p h1 h2 h3 h4 => ?_⟩
  · obtain ⟨a, b⟩ := get j _ h (by intro z; cases z)
    rw [b]; exact R.dat j d a
  · obtain ⟨a, b⟩ := get j _ h (by intro z; cases z)
    rw [b]; exact R.own j o a
  · obtain ⟨a, b⟩ := get j _ h1 (by intro z; cases z)
    obtain ⟨a', b'⟩ := get k _ h2 (by intro z; cases z)
    rw [b] at h3; rw [b'] at h4
    exact R.sep j k o u p a a' h3 h4
theorem RR.shown {B1 : Addr → Prop} {G1 H1 : Hp} {v : V} {r : Rz} {ρ2 : Sl} (R : Rep K B G H σ ρ) (h : RR (K.at B1 G1 H1) (All H) G' H' σ' ρ' v r) (hf : r.free = true) (hs : ∀ (i : Nat) (u : OD) (p : Addr), ρ2[i]? = some (SD.own u) → σ'[i]? = some (some (V.ref p)) → ρ'[i]? = some (SD.own u) ∨ All H p) : RR K B G' H' σ' ρ2 v r := by
  cases h with
  | dat z => exact .dat z
  | bor z => cases hf
  | own h1 h2 h3 h4 h5 =>
    refine .own h1 h2 (fun z => h3 (R.bh _ z)) h4 fun i u hi hz => ?_
    rcases hs i u _ hi hz with z | z
    · exact h5 i u z hz
    · exact h3 z
end
/-! ### try: .. except X as n: .., as slots' data -/
/-- i: the slot of n; asg: the slots that the body assigns; N, cl: the classes caught -/
def wTry (i : Nat) (asg : List Nat) (N : Nat) (cl : Nat → Addr) (wb : Xp → Ws) (ws : Ws) : Ws := fun O ρ =>
  wb (fun C u => ∃ j, j < N ∧ C = cl j ∧ ws { nx := fun ρ' => O.nx (ρ'.set i .emp), rt := O.rt, bk := fun ρ' => O.bk (ρ'.set i .emp), ct := fun ρ' => O.ct (ρ'.set i .emp) } (ρ.set i (.dat (.err C u))))
    { nx := fun ρ1 => ρ1.length = ρ.length ∧ O.nx (unhide asg ρ ρ1), rt := fun r ρ1 => ρ1.length = ρ.length ∧ r.free = true ∧ O.rt r (unhide asg ρ ρ1) } (hide ρ)
/-- a wish that any exception meets -/
theorem takes_any {X : Cx} (hs : X.stack = X.env :: X.outer) (hf : X.env.frame = some X.env.locals) (W : WX) : ∃ xe : Value → Shared → Prop, PassesOwn (model X.prog X.w) X.A X.env xe ∧ Takes (X.tr [] xe) W :=
  ⟨_, PassesOwn.looking (K := fun u s => wpAny (model X.prog X.w) X.A (setFlight u none) (fun _ _ => True) X.xe s) (E₁ := X.xe), fun u s' xx => by
    obtain ⟨a, Bg, sI, pins', σ', H', cls, d, rfl, J, nb, up, sky, na, os, ag, _⟩ := xx
    have sky2 : Sky Bg (X.env :: X.outer) a (Zc cls d) X.env.locals s'.heap := hs ▸ sky
    exact Sky.land Zc.steady (J.ok.frames.trans (by rw [hs])) hf sky2 fun _ _ _ => trivial⟩
/-- the context of an except suite -/
abbrev CxT.hot (X : CxT) (a : Addr) : CxT := ⟨hotC X.cx a, X.T, X.B0, X.G0, X.H0, noX, fun _ _ _ _ => False, PassesOwn.never, takes0, lk_no⟩
section
variable {X : CxT} {T : Nat → Bool} {x n : Str} {CS : Addr} {i : Nat} {asg : List Nat} {body suite : List Stmt} {s0 : Stmt} {np pos pos' : Pos} {tb : WX → TS} {ts : TS} {wb : Xp → Ws} {ws : Ws} {N : Nat} {cl : Nat → Addr}
theorem ds_try (hs : X.stack = X.env :: X.outer) (hf : X.env.frame = some X.env.locals) (hex : X.ex = []) (hN : X.N.Nodup) (hi : X.N[i]? = some n) (hl : X.env.kindOf n = some .local) (hc : Names X x (.ref CS))
    (hm : ∀ j, j < N → PySem.W.exmOne X.cx.K (.ref (cl j)) (.ref CS) = some true) (hT : T i = false) (hA : asg.all (fun j => !T j) = true)
    (hb : ∀ (W : WX) (pn : List (Addr × Obj)) (xe : Value → Shared → Prop) (po : PassesOwn (model X.prog X.w) X.A X.env xe) (tk : Takes (X.cx.tr pn xe) W) (B0 : Addr → Prop) (G0 H0 : Hp) (Ξ : Xp) (lk : Lk X.cx.K B0 G0 H0 Ξ W),
      DSs ⟨X.cx.tr pn xe, X.T, B0, G0, H0, Ξ, W, po, tk, lk⟩ (fun j => !asg.contains j) body (tb W) (wb Ξ))
    (hW : ∀ (W : WX) (D : Ends) (σ : L2.St) (H : Hp), tb (fun cls d _ H' => W cls d σ H') D σ H → tb W D σ H)
    (hsu : ∀ a : Addr, DSs (X.hot a) T (s0 :: suite) ts ws) :
    DS X T (.Try body [.ExceptHandler (some (.Name x np)) (some n) (s0 :: suite) pos'] [] [] pos) (fun D σ H => tb (wHot X.cx.K (.ref CS) i ts D) D σ H) (wTry i asg N cl wb ws) := by
  refine ⟨ps_try_hot hs hf hex hN hi hl hc (fun W pn xe tk po => (hb W pn xe po tk (fun _ => False) (fun _ => none) (fun _ => none) noX lk_no).pss) (fun a => (hsu a).pss), fun B G H σ S0 ρ O D R P q kn kr kb kc => ?_⟩
  refine hW _ D σ H ?_
  -- what an exception finds
  have lk : Lk X.cx.K (All H) G H (fun C u => ∃ j, j < N ∧ C = cl j ∧ ws { nx := fun ρ' => O.nx (ρ'.set i .emp), rt := O.rt, bk := fun ρ' => O.bk (ρ'.set i .emp), ct := fun ρ' => O.ct (ρ'.set i .emp) } (ρ.set i (.dat (.err C u)))) (fun cls d _ H' => wHot X.cx.K (.ref CS) i ts D cls d σ H') := by
    rintro G' H' σ' C d fs v u S b1 tb1 gh1 hd gd hv rv ⟨j, hj, rfl, q2⟩
    refine ⟨hm j hj, fun a na => ?_⟩
    have R1 := R.over S b1 gh1 tb1
    obtain ⟨S2, R2⟩ := rep_add R1 na (o := exA a (.ref (cl j)) (some d)) nt_ext
    have nda : d ≠ a := fun z => by rw [z, na] at hd; cases hd
    have R3 := R2.store (i := i) (v := .ref a) (s := .dat (.err (cl j) u)) (fun d' e => by
      cases e
      exact .err upd_same (by rw [upd_ne nda]; exact gd) .had .had hv (rv.mono S2.g)) (fun o z => by cases z)
    have SS : Stp B G H _ _ := (S.weak R.bh).trans S2
    exact (hsu a).ws B _ _ _ S0 _ _ (endsOut i D) R3 (P.set hT) q2 (fun G4 H4 σ4 ρ4 S4 R4 P4 q4 => kn G4 H4 _ _ (SS.trans S4) (R4.unset i) (P4.set hT) q4) (fun G4 H4 σ4 ρ4 v r S4 R4 P4 rr q4 => kr G4 H4 σ4 ρ4 v r (SS.trans S4) R4 P4 rr q4)
      (fun G4 H4 σ4 ρ4 S4 R4 P4 q4 => kb G4 H4 _ _ (SS.trans S4) (R4.unset i) (P4.set hT) q4) (fun G4 H4 σ4 ρ4 S4 R4 P4 q4 => kc G4 H4 _ _ (SS.trans S4) (R4.unset i) (P4.set hT) q4)
  have pin : ∀ σ', Pn (fun j => !asg.contains j) σ σ' → Pn T S0 σ' := fun σ' P' j hj => by
    refine (P' j ?_).trans (P j hj)
    show (!asg.contains j) = true
    cases c : asg.contains j with
    | false => rfl
    | true =>
      have := List.all_eq_true.mp hA j (List.contains_iff_mem.mp c)
      rw [hj] at this; cases this
  obtain ⟨xe, po, tk⟩ := takes_any hs hf (fun cls d _ H' => wHot X.cx.K (.ref CS) i ts D cls d σ H')
  have main : WSs (X.K.at (All H) G H) (fun j => !asg.contains j) (tb fun cls d _ H' => wHot X.cx.K (.ref CS) i ts D cls d σ H') (wb fun C u => ∃ j, j < N ∧ C = cl j ∧ ws { nx := fun ρ' => O.nx (ρ'.set i .emp), rt := O.rt, bk := fun ρ' => O.bk (ρ'.set i .emp), ct := fun ρ' => O.ct (ρ'.set i .emp) } (ρ.set i (.dat (.err C u)))) := (hb _ [] xe po tk (All H) G H _ lk).ws
  refine main (All H) G H σ σ (hide ρ) _ D R.hide (fun _ _ => rfl) q (fun G4 H4 σ4 ρ4 S4 R4 P4 ⟨hl4, q4⟩ => ?_) (fun G4 H4 σ4 ρ4 v r S4 R4 P4 rr ⟨hl4, hf4, q4⟩ => ?_) (fun _ _ _ _ _ _ _ z => z.elim) (fun _ _ _ _ _ _ _ z => z.elim)
  · exact kn G4 H4 σ4 _ (S4.weak R.bh) (R.unhide S4 R4 P4 hl4) (pin _ P4) q4
  · refine kr G4 H4 σ4 _ v r (S4.weak R.bh) (R.unhide S4 R4 P4 hl4) (pin _ P4) (RR.shown R rr hf4 fun k u p h1 h2 => ?_) q4
    rcases unhide_get hl4 h1 with ⟨_, e⟩ | ⟨c, e⟩
    · exact .inl e
    · have e2 : σ[k]? = some (some (V.ref p)) := by rw [← P4 k (by show (!asg.contains k) = true; rw [c]; rfl)]; exact h2
      obtain ⟨q', hq, a1, a2, _, _, a5⟩ := R.own k u e
      rw [e2] at a1; cases a1
      exact .inr ⟨_, a2, a5.nt⟩
end
end DL

set_option Elab.async false
set_option linter.all false
set_option maxRecDepth 100000
set_option maxHeartbeats 2000000
namespace DL
open PySem L2
/-! ### a lambda, handed to a def that calls it in a try -/
/-- what a lambda does: its result, its exception -/
abbrev Lm1 := (Rz → Prop) → Xp → Prop
def wAct (f : Addr) (g : Hp) (L : Lm1) (Ξ : Xp) : We := fun ρ Q => ρ[0]? = some (.dat (.fn f g)) ∧ L (fun r => Q r ρ) Ξ
/-- what a lambda's reading does, at any later state -/
def LinkTl (KF : PySem.W.Frag) (Ts : List (Addr × Str)) (g : Hp) (tl : XK → Hp → VK → Prop) (L : Lm1) : Prop := ∀ (K' : KT) (B2 : Addr → Prop) (G2 H2 : Hp) (Qr : Rz → Prop) (Ξ : Xp) (QV : VK) (E : XK), K'.F = KF → K'.T = Ts → Rep K' B2 G2 H2 [] [] → Ex g G2 → L Qr Ξ →
  (∀ v G' H' r, Stp (All H2) G2 H2 G' H' → Rep ⟨KF, Ts, All H2, G2, H2⟩ (All H2) G' H' [] [] → RR ⟨KF, Ts, All H2, G2, H2⟩ (All H2) G' H' [] [] v r → r.free = true → Qr r → QV v H') → Lk KF (All H2) G2 H2 Ξ (fun cls d _ H' => E cls d H') → tl E H2 QV
/-- the reading of a() -/
def tAct (f c' : Addr) (q : Str) (tl : XK → Hp → VK → Prop) (W : WX) : TE := fun σ H Q => σ[0]? = some (some (.ref f)) ∧ H c' = some (LamX.CodeO c' q) ∧ tl (fun cls d H' => W cls d σ H') H Q
theorem Rep.bare {K : KT} {B : Addr → Prop} {G H : Hp} {σ : L2.St} {ρ : Sl} (R : Rep K B G H σ ρ) : Rep K B G H [] [] :=
  ⟨R.gh, R.tb, R.z, R.bh, rfl, fun i d h => by simp at h, fun i o h => by simp at h, fun i j o u p h => by simp at h⟩
theorem RR.bare {K K' : KT} (hF : K.F = K'.F) {B B' : Addr → Prop} (hb : ∀ a, B' a → B a) {G H : Hp} {σ : L2.St} {ρ : Sl} {v : V} {r : Rz} (h : RR K B G H σ ρ v r) (hf : r.free = true) : RR K' B' G H [] [] v r := by
  obtain ⟨F, T, B0, G0, H0⟩ := K
  obtain ⟨F', T', B0', G0', H0'⟩ := K'
  have hF : F = F' := hF
  subst hF
  cases h with
  | dat z => exact .dat z
  | bor z => cases hf
  | own h1 h2 h3 h4 _ => exact .own h1 h2 (fun z => h3 (hb _ z)) h4 fun i u hi => by simp at hi
/-- a result without slots, beside slots -/
theorem RR.beside {K K' : KT} (hF : K.F = K'.F) {B : Addr → Prop} {G H G0 H0 : Hp} {σ : L2.St} {ρ : Sl} {v : V} {r : Rz} (R : Rep K' B G0 H0 σ ρ) (h : RR K (All H0) G H [] [] v r) : RR K' B G H σ ρ v r := by
  obtain ⟨F, T, b0, g0, h0⟩ := K
  obtain ⟨F', T', b0', g0', h0'⟩ := K'
  have hF : F = F' := hF
  subst hF
  cases h with
  | dat z => exact .dat z
  | bor z => simp at z
  | own h1 h2 h3 h4 _ =>
    refine .own h1 h2 (fun z => h3 (R.bh _ z)) h4 fun i u hi hz => ?_
    obtain ⟨q, hq, a1, a2, _, _, a5⟩ := R.own i u hi
    rw [hz] at a1; cases a1
    exact h3 ⟨_, a2, a5.nt⟩
theorem we_act {K : KT} {f c' : Addr} {g : Hp} {q : Str} {tl : XK → Hp → VK → Prop} {L : Lm1} {Ξ : Xp} {W : WX} (hg : g c' = some (LamX.CodeO c' q)) (hl : LinkTl K.F K.T g tl L) (lk : Lk K.F K.B0 K.G0 K.H0 Ξ W) : WE K (tAct f c' q tl W) (wAct f g L Ξ) := fun B G H σ ρ Q QV R ⟨h0, hL⟩ k => by
  obtain ⟨v, hv, rv⟩ := R.dat 0 _ h0
  cases rv with
  | fn ex =>
    refine ⟨hv, R.gh _ _ (ex _ _ hg (by unfold LamX.CodeO; exact nt_ext)) (by unfold LamX.CodeO; exact nt_ext), ?_⟩
    refine hl K B G H _ Ξ QV _ rfl rfl R.bare ex hL (fun v G' H' r S R' rr hf q => ?_) (lk_call R.z R.bh lk)
    have R2 := R.over S R'.bh R'.gh R'.tb
    refine k v G' H' ρ r (S.weak R.bh) R2 ?_ q
    exact RR.beside (K := ⟨K.F, K.T, All H, G, H⟩) (K' := K) rfl R rr
/-- the context of a lambda's body -/
abbrev lamT (X : CxT) (A : Around) (outer : List PySem.Env) (s : Shared) (H : Hp) (E : XK) (scope : Scope) (f c' : Addr) (B0 : Addr → Prop) (G0 H0 : Hp) (Ξ : Xp) (lk : Lk X.cx.K B0 G0 H0 Ξ (fun cls d _ H' => E cls d H')) : CxT :=
  ⟨LamX.lamCx X.cx A outer s H E scope f c', X.T, B0, G0, H0, Ξ, fun cls d _ H' => E cls d H', PassesOwn.leaving, takes_of rfl rfl rfl rfl, lk⟩
/-- the context of the def that gets the lambda -/
abbrev hrdC (P : Program) (w : World) (KF : PySem.W.Frag) (mg : Str → Option Value) (base : Heap) (Ng : List Str) (x : Str) (sg : Scope) (g : Addr) (cdv : Value) (A : Around) (outer : List PySem.Env) (s : Shared) (H : Hp) : Cx := (cxOf C8.CX0 P w KF mg base Ng x sg g cdv A outer s H C8.E0).nox
abbrev hrdT (P : Program) (w : World) (KF : PySem.W.Frag) (Ts : List (Addr × Str)) (mg : Str → Option Value) (base : Heap) (Ng : List Str) (x : Str) (sg : Scope) (g : Addr) (cdv : Value) (A : Around) (outer : List PySem.Env) (s : Shared) (H : Hp) (B : Addr → Prop) (G : Hp) : CxT :=
  ⟨hrdC P w KF mg base Ng x sg g cdv A outer s H, Ts, B, G, H, noX, fun _ _ _ _ => False, PassesOwn.never, takes0, lk_no⟩
/-- a() within a try -/
def ActOk (Z : Cx) (Ts : List (Addr × Str)) (a : Str) (f : Addr) (gp : Hp) (tA : WX → TE) (L : Lm1) : Prop :=
  (∀ (W : WX) (pn : List (Addr × Obj)) (xe : Value → Shared → Prop) (po : PassesOwn (model Z.prog Z.w) Z.A Z.env xe) (tk : Takes (Z.tr pn xe) W) (B0 : Addr → Prop) (G0 H0 : Hp) (Ξ : Xp) (lk : Lk Z.K B0 G0 H0 Ξ W) (p1 p2 : Pos),
    DE ⟨Z.tr pn xe, Ts, B0, G0, H0, Ξ, W, po, tk, lk⟩ (.Call (.Name a p1) [] [] p2) (tA W) (wAct f gp L Ξ)) ∧
  ∀ (W : WX) (σ : L2.St) (H : Hp) (Q : VK), tA (fun cls d _ H' => W cls d σ H') σ H Q → tA W σ H Q
/-- a def that calls what it gets -/
structure Hrd (P : Program) (w : World) (KF : PySem.W.Frag) (Ts : List (Addr × Str)) (mg : Str → Option Value) (base : Heap) (x a : Str) (F : Lm1 → (Rz → Prop) → Prop) : Prop where
  ex : ∃ (g : Addr) (pg : Arguments) (bg : List Stmt) (sg : Scope) (dV kV doc pm cdv ct oc : Value) (an od : Option Addr) (osl : Array (Option Value)) (Ng : List Str) (Tg : Nat → Bool) (wh : Addr → Hp → Lm1 → Ws),
    mg x = some (.ref g) ∧ PySem.W.keepIn KF (.ref g) = true ∧ KF.lookup g = some ⟨oc, od, .func (PySem.W.fnOf x x pg bg sg dV kV doc pm an cdv ct), osl⟩ ∧ PySem.W.codeIn KF cdv x = true ∧ L2.Binds KF (PySem.W.fnOf x x pg bg sg dV kV doc pm an cdv ct) [a] [] ∧ FnScope Ng [a] sg ∧ Ng[0]? = some a ∧ Vis sg a ∧
    (∀ (A : Around) (outer : List PySem.Env) (s : Shared) (H : Hp), Room 1 (hrdC P w KF mg base Ng x sg g cdv A outer s H).A → ∀ (B : Addr → Prop) (G : Hp) (f : Addr) (gp : Hp) (tA : WX → TE) (L : Lm1), ActOk (hrdC P w KF mg base Ng x sg g cdv A outer s H) Ts a f gp tA L →
      ∃ t, DSs (hrdT P w KF Ts mg base Ng x sg g cdv A outer s H B G) Tg bg t (wh f gp L)) ∧
    ∀ L Q, F L Q → ∀ f gp, wh f gp L { nx := fun _ => Q (.dat .non), rt := fun r _ => r.free = true ∧ Q r } (.dat (.fn f gp) :: List.replicate (Ng.length - 1) .emp)
/-- what the def asks of the lambda -/
def TTh (KF : PySem.W.Frag) (Ts : List (Addr × Str)) (F : Lm1 → (Rz → Prop) → Prop) : (XK → Hp → VK → Prop) → Hp → VK → Prop := fun tl H Q => ∃ (G : Hp) (L : Lm1) (Qr : Rz → Prop), Rep ⟨KF, Ts, All H, G, H⟩ (All H) G H [] [] ∧ (∀ g, Ex G g → LinkTl KF Ts g tl L) ∧ F L Qr ∧
  ∀ v G' H' r, Stp (All H) G H G' H' → Rep ⟨KF, Ts, All H, G, H⟩ (All H) G' H' [] [] → RR ⟨KF, Ts, All H, G, H⟩ (All H) G' H' [] [] v r → r.free = true → Qr r → Q v H'
/-- a(), the lambda having been made in X at s, the context being the def's that got it -/
theorem pe_actW {X : Cx} {pins : List (Addr × Obj)} {σ : L2.St} {H : Hp} {s : Shared} {CXg : CXT} {Eg : XK} {Ng : List Str} {qg : Str} {sg : Scope} {g f c' : Addr} {cdg pm ctv : Value} {params : Arguments} {body : Expr} {scope : Scope} {k i : Nat} {a : Str} {pn : List (Addr × Obj)}
    {xe : Value → Shared → Prop} {W : WX} {tb : XK → TE} {p1 p2 : Pos} (I : L2.Inv X pins σ H s) (L : LamX.LamS X.env.scope scope)
    (hf : s.heap.get? f = some (PySem.W.kla_obj "<lambda>" (X.env.qual ++ "<lambda>") params body scope (cloFrom X.env.cells scope.names []) pm c' ctv)) (hfn : H f = none) (hfr : f ∉ frs X.stack)
    (hbind : bindArgs (PySem.W.kla_fn "<lambda>" (X.env.qual ++ "<lambda>") params body scope (cloFrom X.env.cells scope.names []) pm (.ref c') ctv) ⟨[], []⟩ = pure [])
    (tk : Takes ((cxOf CXg X.prog X.w X.K X.mg X.base Ng qg sg g cdg X.A X.stack s H Eg).tr pn xe) W) (hr : Room (k + 1) (X.A.deeper (PyProof.Rows.envOfC qg sg s.heap.objs.size g cdg)))
    (hgd : X.A.guards = some []) (hbody : ∀ (A : Around) (outer : List PySem.Env) (s : Shared) (H : Hp) (E : XK), Room k (A.deeper (LamX.lamEnv X scope s.heap.objs.size f c')) → A.guards = some [] → PE (LamX.lamCx X A outer s H E scope f c') body (tb E))
    (hN : Ng[i]? = some a) (h0 : i = 0) (hv : Vis sg a) (hd : (a == ("__debug__" : Str)) = false) (hcd : (a == ("__classdict__" : Str)) = false) :
    PE ((cxOf CXg X.prog X.w X.K X.mg X.base Ng qg sg g cdg X.A X.stack s H Eg).tr pn xe) (.Call (.Name a p1) [] [] p2) (tAct f c' (X.env.qual ++ "<lambda>") (fun E H' Q' => tb E σ H' Q') W) := by
  subst h0
  constructor
  intro pinsZ sZ σZ HZ Q IZ ⟨hs, hc, ht⟩
  have nameP := (pe_var (X := (cxOf CXg X.prog X.w X.K X.mg X.base Ng qg sg g cdg X.A X.stack s H Eg).tr pn xe) (pos := p1) (i := 0) hN hv hd hcd).run pinsZ sZ σZ HZ (fun v H1 => v = .ref f ∧ H1 = HZ) IZ ⟨.ref f, hs, rfl, rfl⟩
  refine wpAny_Call_Name_kw (thn nameP ?_)
  rintro u s1 ⟨v, H1, I1, r1, ev, eH⟩
  subst ev eH
  obtain rfl : u = Value.ref f := r1
  have ff := I1.base.keep f _ hf hfn hfr (fun z => nomatch (show f ∈ ([] : List Addr) from z))
  refine PySem.W.callWith_F0 ⟨_, _, _, _, ff⟩ ?_
  have un : Un (frs X.stack) [] H H1 s.heap s1.heap := I1.base
  obtain ⟨⟨oc, vs, t, hoc, hdc, hvc⟩, _, _⟩ := I1.hok c' _ hc
  let E : XK := fun cls d H' => W cls d σZ H'
  have run : codeAny (model X.prog X.w) (X.A.deeper (PyProof.Rows.envOfC qg sg s.heap.objs.size g cdg)) (.call (.ref f) ⟨[], []⟩) (CR (L2.CX X.prog X.w) (PyProof.Rows.envOfC qg sg s.heap.objs.size g cdg :: X.stack) X.prog X.w H1 s1 Q E) s1 := by
    refine PySem.W.kla_callFunE hr.depth ff rfl L.co L.gen rfl ⟨c', oc, vs, t, rfl, hoc, hdc, hvc⟩ ?_
    rw [hbind]
    have noC : ∀ y ∈ scope.names, y.2 ≠ .cell := fun y hy => (L.own y hy).2
    refine wpAny_pure (wpAny_newFunctionEnv noC (fun y hy => absurd hy (by simp)) ?_ L.kind)
    intro h₁ hns hsb
    refine ⟨I1.nolimit.fresh _ hsb, ?_⟩
    show codeAny _ _ (.expr body (LamX.lamEnv X scope s1.heap.objs.size f c')) _ _
    have kept : ∀ b o, s1.heap.get? b = some o → h₁.get? b = some o := fun b o e =>
      hsb.extBut b o (Nat.ne_of_lt (Heap.lt_size e)) (Heap.get?_push_of_some _ e)
    have J := LamX.lam_start2 (E := E) (f := f) (c' := c') (tk := s1.toks + ([] : List (Str × Value)).length) I L I1.env0 hr.hd un hns kept
    refine PySem.W.kla_codeExpr (wpAny_mono ((hbody _ _ s1 H1 E (hr.deeper _) hgd).run [] _ _ H1 Q J ht) ?_ fun e s' hq => hq)
    rintro v s' ⟨w', H', J', rv, q⟩
    exact ⟨w', H', J'.os, J'.bare, J'.base, J'.hok, rv, q⟩
  refine wpAny_call (codeAny_mono run fun r s' hq => ?_)
  match r, hq with
  | .error e, hq => exact tk e s' (XE.of_call I1 (fun _ _ _ h => h) hq)
  | .ok (.ret u), hq => exact I1.after hq
  | .ok .next, hq => exact False.elim hq
  | .ok .brk, hq => exact False.elim hq
  | .ok .cont, hq => exact False.elim hq
/-- the def that calls what it gets: TT, what it makes of the lambda's reading -/
def GiveW (X : Cx) (Ng : List Str) (x : Str) (sg : Scope) (g : Addr) (cdg : Value) (bg : List Stmt) (a : Str) (q : Str) (TT : (XK → Hp → VK → Prop) → Hp → VK → Prop) : Prop :=
  ∀ (f c' : Addr) (s : Shared) (H : Hp) (Q : VK) (tl : XK → Hp → VK → Prop),
    (∀ (W : WX) (pn : List (Addr × Obj)) (xe : Value → Shared → Prop) (p1 p2 : Pos), Takes ((hrdC X.prog X.w X.K X.mg X.base Ng x sg g cdg X.A X.stack s H).tr pn xe) W →
      PE ((hrdC X.prog X.w X.K X.mg X.base Ng x sg g cdg X.A X.stack s H).tr pn xe) (.Call (.Name a p1) [] [] p2) (tAct f c' q tl W)) →
    H c' = some (LamX.CodeO c' q) → TT tl H Q →
    ∃ t, PSs (hrdC X.prog X.w X.K X.mg X.base Ng x sg g cdg X.A X.stack s H) bg t ∧ t { nx := fun _ H' => Q .non H', rt := Q } (L2.start Ng [.ref f]) H
theorem pe_lamW {X : Cx} {Ts : List (Addr × Str)} {TT : (XK → Hp → VK → Prop) → Hp → VK → Prop} {x a : Str} {g c P : Addr} {k : Nat} {pg : Arguments} {bg : List Stmt} {sg : Scope} {dV kV doc pm cdv ct oc : Value} {an od : Option Addr} {osl : Array (Option Value)} {Ng : List Str}
    {params : Arguments} {body : Expr} {scope : Scope} {t : XK → TE} {p lpos pos : Pos} (hg : Gl X x) (hm : X.mg x = some (.ref g)) (hk : PySem.W.keepIn X.K (.ref g) = true)
    (lk : X.K.lookup g = some ⟨oc, od, .func (PySem.W.fnOf x x pg bg sg dV kV doc pm an cdv ct), osl⟩) (hcg : PySem.W.codeIn X.K cdv x = true) (hb : L2.Binds X.K (PySem.W.fnOf x x pg bg sg dV kV doc pm an cdv ct) [a] []) (Sg : FnScope Ng [a] sg) (hNg : Ng[0]? = some a) (hva : Vis sg a)
    (hG : GiveW X Ng x sg g cdv bg a (X.env.qual ++ "<lambda>") TT)
    (TB : LamX.TabB X.base X.mg c P) (hcode : X.env.code = .ref c) (hmT : (P, X.env.qual ++ "<lambda>") ∈ Ts) (hu : ∀ p ∈ Ts, p.1 = P → p.2 = X.env.qual ++ "<lambda>") (hr : Room (k + 2) X.A) (L : LamX.LamS X.env.scope scope) (hdef : defaultsOf params X.env = ([], []))
    (hbind : ∀ (q : Str) (cl : List (Str × Addr)) (pm cv ctv : Value), bindArgs (PySem.W.kla_fn "<lambda>" q params body scope cl pm cv ctv) ⟨[], []⟩ = pure [])
    (hgd : X.A.guards = some []) (hbody : ∀ (f c' : Addr) (A : Around) (outer : List PySem.Env) (s : Shared) (H : Hp) (E : XK), Room k (A.deeper (LamX.lamEnv X scope s.heap.objs.size f c')) → A.guards = some [] → PE (LamX.lamCx X A outer s H E scope f c') body (t E))
    (hdb : (x == ("__debug__" : Str)) = false) (hd : (a == ("__debug__" : Str)) = false) (hcd : (a == ("__classdict__" : Str)) = false) :
    PE X (.Call (.Name x p) [.Lambda params body scope lpos] [] pos) (LamX.tLam Ts TT t) := by
  constructor
  intro pins s σ H Q I ⟨hT, h⟩
  refine wpAny_Call_Name_kw (ld_glob I hg hm ?_ hdb)
  refine PySem.W.callWith_K (h₀ := X.base) I.ok.mod.kin hk ?_ (by rfl) (by rfl)
  show wpAny _ _ (spliced ((false, eval (.Lambda params body scope lpos) X.env) :: backTo pos (starEach [] X.env))) _ _ s
  refine Calls.spliced_cons (LamX.lam_make2 I TB hcode hmT hu hT hdef (L.has I.ok) ?_)
  intro f c' pm' ctv H1 s' I1 eN T1 hf hfn hfr hco
  refine Calls.spliced_nil ⟨I1.kIn, ?_⟩
  have bnd := hb s' [.ref f] I1.kIn rfl
  have run : codeAny (model X.prog X.w) X.A (.call (.ref g) ⟨[.ref f], []⟩) (CR C8.CX0 X.stack X.prog X.w H1 s' Q C8.E0) s' := by
    refine LamX.run_ofS (N := Ng) (ps := [a]) (us := [.ref f]) (vs := [.ref f]) lk hcg Sg hr I1.env0 bnd (.cons rfl .nil) rfl ?_
    intro hr'
    obtain ⟨t', ht', hq'⟩ := hG f c' s' H1 Q (fun E H' Q' => t E σ H' Q')
      (fun W pn xe p1 p2 tk => pe_actW (CXg := C8.CX0) (Eg := C8.E0) (Ng := Ng) (i := 0) I1 L hf hfn hfr (hbind _ _ _ _ _) tk hr' hgd (hbody f c') hNg rfl hva hd hcd) hco (h H1 eN T1)
    exact ⟨t', ht'.nox, hq'⟩
  refine wpAny_call (codeAny_mono run fun r s2 hq => ?_)
  match r, hq with
  | .error e, hq => exact (show False from hq).elim
  | .ok (.ret u), hq => exact I1.after hq
  | .ok .next, hq => exact False.elim hq
  | .ok .brk, hq => exact False.elim hq
  | .ok .cont, hq => exact False.elim hq
theorem gives_of {X : Cx} {Ts : List (Addr × Str)} {x a q : Str} {g : Addr} {bg : List Stmt} {sg : Scope} {cdv : Value} {Ng : List Str} {Tg : Nat → Bool} {wh : Addr → Hp → Lm1 → Ws} {F : Lm1 → (Rz → Prop) → Prop} (hN : Ng[0]? = some a)
    (hr : Room 2 X.A) (hb : ∀ (A : Around) (outer : List PySem.Env) (s : Shared) (H : Hp), Room 1 (hrdC X.prog X.w X.K X.mg X.base Ng x sg g cdv A outer s H).A → ∀ (B : Addr → Prop) (G : Hp) (f : Addr) (gp : Hp) (tA : WX → TE) (L : Lm1), ActOk (hrdC X.prog X.w X.K X.mg X.base Ng x sg g cdv A outer s H) Ts a f gp tA L →
      ∃ t, DSs (hrdT X.prog X.w X.K Ts X.mg X.base Ng x sg g cdv A outer s H B G) Tg bg t (wh f gp L))
    (hF : ∀ L Q, F L Q → ∀ f gp, wh f gp L { nx := fun _ => Q (.dat .non), rt := fun r _ => r.free = true ∧ Q r } (.dat (.fn f gp) :: List.replicate (Ng.length - 1) .emp)) :
    GiveW X Ng x sg g cdv bg a q (TTh X.K Ts F) := by
  intro f c' s H Q tl act hc ⟨G, L, Qr, R, hL, hFL, hk⟩
  -- the code object that was made is stable from now on
  have nG : ∀ ps, H c' ≠ some (.tbl ps) := fun ps z => by rw [hc] at z; unfold LamX.CodeO at z; cases z
  have ntc : Nt (LamX.CodeO c' q) := by unfold LamX.CodeO; exact nt_ext
  let G1 : Hp := fun b => if b = c' then some (LamX.CodeO c' q) else G b
  have g1c : G1 c' = some (LamX.CodeO c' q) := if_pos rfl
  have g1n : ∀ b, b ≠ c' → G1 b = G b := fun b hb => if_neg hb
  have old : ∀ u, G c' = some u → u = LamX.CodeO c' q := fun u hu => by
    by_cases n : Nt u
    · have := R.gh _ _ hu n
      rw [hc] at this; exact (Option.some.inj this).symm
    · obtain ⟨ps, hps⟩ := Classical.not_forall.mp n
      have hps : u = .tbl ps := Classical.not_not.mp hps
      subst hps
      obtain ⟨_, _, _, ps', hH, _⟩ := R.tb _ _ hu
      exact absurd hH (nG ps')
  have e1 : Ex G G1 := fun b u hu _ => by
    by_cases hb : b = c'
    · subst hb; rw [old u hu]; exact g1c
    · rw [g1n b hb]; exact hu
  have gh1 : Ex G1 H := fun b u hu n => by
    by_cases hb : b = c'
    · subst hb; rw [g1c] at hu; cases hu; exact hc
    · rw [g1n b hb] at hu; exact R.gh b u hu n
  have tb1 : Tb G1 H := fun b ps hu => by
    by_cases hb : b = c'
    · subst hb; rw [g1c] at hu; unfold LamX.CodeO at hu; cases hu
    · rw [g1n b hb] at hu; exact R.tb b ps hu
  have S1 : Stp (All H) G H G1 H := ⟨e1, fun b ps hu => by
      by_cases hb : b = c'
      · subst hb; have := old _ hu; unfold LamX.CodeO at this; cases this
      · rw [g1n b hb]; exact hu, fun b ps hu => by
      by_cases hb : b = c'
      · subst hb; rw [g1c] at hu; unfold LamX.CodeO at hu; cases hu
      · rw [g1n b hb] at hu; exact hu, fun _ _ _ h _ => h, fun b o hb ho w => by
      by_cases hb' : b = c'
      · subst hb'; rw [hc] at ho; cases ho; unfold LamX.CodeO at w; exact w.elim
      · exact g1n b hb'⟩
  have act2 : ActOk (hrdC X.prog X.w X.K X.mg X.base Ng x sg g cdv X.A X.stack s H) Ts a f G1 (tAct f c' q tl) L :=
    ⟨fun W pn xe po tk B0 G0 H0 Ξ lk p1 p2 => ⟨act W pn xe p1 p2 tk, we_act g1c (hL G1 e1) lk⟩, fun W σ H Q h => h⟩
  obtain ⟨t, ht⟩ := hb X.A X.stack s H (hr.deeper _) (All H) G1 f G1 (tAct f c' q tl) L act2
  have hlen : 0 < Ng.length := (List.getElem?_eq_some_iff.mp hN).1
  have R1 : Rep ⟨X.K, Ts, All H, G1, H⟩ (All H) G1 H (L2.start Ng [.ref f]) (.dat (.fn f G1) :: List.replicate (Ng.length - 1) .emp) := by
    refine ⟨gh1, tb1, ⟨fun _ h => h, .refl, fun p hp => S1.t _ _ (R.z.m p hp), fun a ps h => R.z.m2 a ps (S1.u a ps h)⟩, fun _ h => h, ?_, fun i d h => ?_, fun i o h => ?_, fun i j o u p h => ?_⟩
    · unfold L2.start; simp
    · match i, h with
      | 0, h => cases h; exact ⟨_, rfl, .fn (Ex.refl _)⟩
      | i + 1, h => rw [List.getElem?_cons_succ, List.getElem?_replicate] at h; split at h <;> cases h
    · match i, h with
      | 0, h => cases h
      | i + 1, h => rw [List.getElem?_cons_succ, List.getElem?_replicate] at h; split at h <;> cases h
    · match i, h with
      | 0, h => cases h
      | i + 1, h => rw [List.getElem?_cons_succ, List.getElem?_replicate] at h; split at h <;> cases h
  refine ⟨t, ht.pss, ht.ws (All H) G1 H _ (L2.start Ng [.ref f]) _ _ _ R1 (fun _ _ => rfl) (hF L Qr hFL f G1) (fun G' H' σ' ρ' S' R' P' q' => ?_) (fun G' H' σ' ρ' v r S' R' P' rr ⟨hf, q'⟩ => ?_) (fun _ _ _ _ _ _ _ z => z.elim) (fun _ _ _ _ _ _ _ z => z.elim)⟩
  · have S2 := S1.trans S'
    exact hk .non G' H' (.dat .non) S2 ⟨R'.gh, R'.tb, R.z.step S2, R'.bh, rfl, fun i d h => by simp at h, fun i o h => by simp at h, fun i j o u p h => by simp at h⟩ (.dat .non) rfl q'
  · have S2 := S1.trans S'
    exact hk v G' H' r S2 ⟨R'.gh, R'.tb, R.z.step S2, R'.bh, rfl, fun i d h => by simp at h, fun i o h => by simp at h, fun i j o u p h => by simp at h⟩ (RR.bare (K := ⟨X.K, Ts, All H, G1, H⟩) (K' := ⟨X.K, Ts, All H, G, H⟩) rfl (fun _ h => h) rr hf) hf q'
/-- x(lambda: body) -/
def wLam (F : Lm1 → (Rz → Prop) → Prop) (wl : Xp → We) : We := fun ρ Q => F (fun Qr Ξ => wl Ξ (hide ρ) fun r _ => r.free = true ∧ Qr r) (fun r => Q r ρ)
theorem tabs_of {K : KT} {B : Addr → Prop} {G H : Hp} {σ : L2.St} {ρ : Sl} (R : Rep K B G H σ ρ) : LamX.Tabs K.T H := fun p hp => by
  obtain ⟨q, t, e, h⟩ := R.tb _ _ (R.z.m p hp)
  have e2 : q = p.2 := by
    have := congrArg (fun z => z[0]?) e
    simp at this
    exact this.1.symm
  rw [e2] at h; exact h
theorem we_lam {K : KT} {F : Lm1 → (Rz → Prop) → Prop} {wl : Xp → We} {t : XK → TE} (hwe : ∀ (E : XK) (B0 : Addr → Prop) (G0 H0 : Hp) (Ξ : Xp), Lk K.F B0 G0 H0 Ξ (fun cls d _ H' => E cls d H') → WE ⟨K.F, K.T, B0, G0, H0⟩ (t E) (wl Ξ)) :
    WE K (LamX.tLam K.T (TTh K.F K.T F) t) (wLam F wl) := fun B G H σ ρ Q QV R q k => by
  refine ⟨tabs_of R, fun H1 eN T1 => ?_⟩
  -- behind the making of the lambda
  have gh1 : Ex G H1 := fun b u hu n => eN b u (R.gh b u hu n) n
  have tb1 : Tb G H1 := fun b ps hu => by
    obtain ⟨p, hp, e⟩ := R.z.m2 b ps hu
    subst e
    have m := R.z.m p hp
    rw [hu] at m
    cases m
    exact ⟨p.2, 0, rfl, T1 p hp⟩
  have S1 : Stp (All H) G H G H1 := ⟨Ex.refl G, fun _ _ h => h, fun _ _ h => h, fun a o _ h n => eN a o h n, fun _ _ _ _ _ => rfl⟩
  have b1 : ∀ a, All H a → Tr H1 a := fun a ⟨o, e, n⟩ => ⟨o, eN a o e n, n⟩
  have R1 := R.over S1 b1 gh1 tb1
  obtain ⟨G', L, Qr, hF, ha, hb, hc⟩ : ∃ G' L Qr, G' = G ∧ (L = fun Qr Ξ => wl Ξ (hide ρ) fun r _ => r.free = true ∧ Qr r) ∧ (Qr = fun r => Q r ρ) ∧ F L Qr := ⟨_, _, _, rfl, rfl, rfl, q⟩
  subst hF
  refine ⟨G', L, Qr, ⟨gh1, tb1, R1.z.new, fun _ h => h, rfl, fun i d h => by simp at h, fun i o h => by simp at h, fun i j o u p h => by simp at h⟩, fun g eg K' B2 G2 H2 Qr' Ξ QV' E hKF hKT R2 eg2 hL hk lk2 => ?_, hc, fun v G2 H2 r S R2 rr hf q2 => ?_⟩
  · -- the lambda runs
    subst ha
    have RH : Rep ⟨K.F, K.T, All H2, G2, H2⟩ (All H2) G2 H2 σ (hide ρ) := by
      refine ⟨R2.gh, R2.tb, ⟨fun _ h => h, .refl, fun p hp => ?_, fun a ps h => ?_⟩, fun _ h => h, by unfold DL.hide; rw [List.length_map]; exact R.len, fun i d h => ?_, fun i o h => ?_, fun i j o u p h => ?_⟩
      · exact R2.z.m p (by rw [hKT]; exact hp)
      · obtain ⟨p, hp, e⟩ := R2.z.m2 a ps h
        exact ⟨p, by rw [← hKT]; exact hp, e⟩
      · rcases hide_get h with ⟨_, _, z⟩ | ⟨e, _⟩
        · cases z
        · obtain ⟨v, h1, h2⟩ := R.dat i d e
          exact ⟨v, h1, h2.mono (eg.trans eg2)⟩
      · rcases hide_get h with ⟨_, _, z⟩ | ⟨_, z⟩
        · cases z
        · exact absurd rfl (z o)
      · rcases hide_get h with ⟨_, _, z⟩ | ⟨_, z⟩
        · cases z
        · exact absurd rfl (z o)
    refine hwe E (All H2) G2 H2 Ξ lk2 (All H2) G2 H2 σ (hide ρ) _ QV' RH hL fun v G3 H3 ρ3 r S3 R3 rr3 ⟨hf, q3⟩ => ?_
    exact hk v G3 H3 r S3 ⟨R3.gh, R3.tb, R3.z, R3.bh, rfl, fun i d h => by simp at h, fun i o h => by simp at h, fun i j o u p h => by simp at h⟩ (RR.bare (K := ⟨K.F, K.T, All H2, G2, H2⟩) rfl (fun _ h => h) rr3 hf) hf q3
  · subst hb
    have R3 := R1.over S R2.bh R2.gh R2.tb
    exact k v G2 H2 ρ r ((S1.trans (S.weak b1)).weak R.bh) R3 (RR.beside (K := ⟨K.F, K.T, All H1, G', H1⟩) (K' := K) rfl R1 rr) q2
/-- x(lambda: body), by the def's promise -/
theorem de_lam {X : CxT} {x a : Str} {c P : Addr} {k : Nat} {params : Arguments} {body : Expr} {scope : Scope} {t : XK → TE} {wl : Xp → We} {F : Lm1 → (Rz → Prop) → Prop} {p lpos pos : Pos} (Hd : Hrd X.prog X.w X.cx.K X.T X.mg X.base x a F) (hg : Gl X x)
    (TB : LamX.TabB X.base X.mg c P) (hcode : X.env.code = .ref c) (hmT : (P, X.env.qual ++ "<lambda>") ∈ X.T) (hu : ∀ p ∈ X.T, p.1 = P → p.2 = X.env.qual ++ "<lambda>") (hr : Room (k + 2) X.A) (hgd : X.A.guards = some []) (L : LamX.LamS X.env.scope scope) (hdef : defaultsOf params X.env = ([], []))
    (hbind : ∀ (q : Str) (cl : List (Str × Addr)) (pm cv ctv : Value), bindArgs (PySem.W.kla_fn "<lambda>" q params body scope cl pm cv ctv) ⟨[], []⟩ = pure [])
    (hbody : ∀ (f c' : Addr) (A : Around) (outer : List PySem.Env) (s : Shared) (H : Hp) (E : XK) (B0 : Addr → Prop) (G0 H0 : Hp) (Ξ : Xp) (lk : Lk X.cx.K B0 G0 H0 Ξ (fun cls d _ H' => E cls d H')), Room k (A.deeper (LamX.lamEnv X.cx scope s.heap.objs.size f c')) → A.guards = some [] →
      DE (lamT X A outer s H E scope f c' B0 G0 H0 Ξ lk) body (t E) (wl Ξ))
    (hdb : (x == ("__debug__" : Str)) = false := by decide) (hd : (a == ("__debug__" : Str)) = false := by decide) (hcd : (a == ("__classdict__" : Str)) = false := by decide) :
    DE X (.Call (.Name x p) [.Lambda params body scope lpos] [] pos) (LamX.tLam X.T (TTh X.cx.K X.T F) t) (wLam F wl) := by
  obtain ⟨g, pg, bg, sg, dV, kV, doc, pm, cdv, ct, oc, an, od, osl, Ng, Tg, wh, hm, hk, lk, hcg, hb, Sg, hNg, hva, hH, hF⟩ := Hd.ex
  refine ⟨pe_lamW hg hm hk lk hcg hb Sg hNg hva (gives_of hNg (hr.mono (by omega)) hH hF) TB hcode hmT hu hr L hdef hbind hgd (fun f c' A outer s H E hr2 hg2 => (hbody f c' A outer s H E (fun _ => False) (fun _ => none) (fun _ => none) noX lk_no hr2 hg2).pe) hdb hd hcd, we_lam (K := X.K) fun E B0 G0 H0 Ξ lk => ?_⟩
  exact (hbody 0 0 (X.A.deeper X.env) [] X.s_0 X.H_0 E B0 G0 H0 Ξ lk ((hr.deeper _).deeper _) hgd).we
end DL

set_option Elab.async false
set_option linter.all false
set_option maxRecDepth 100000
set_option maxHeartbeats 2000000
namespace DL
open PySem L2
/-! ### calls by the names of the parameters -/
structure DK (X : CxT) (kws : List Keyword) (tk : TA) (wk : Wa) : Prop where
  pk : PK X kws tk
  wa : WAa X.K tk wk
section
variable {X : CxT} {K : KT} {e : Expr} {te : TE} {we : We} {kws : List Keyword} {t : TA} {w : Wa} {nm : Option Str} {kpos p pos : Pos} {x : Str}
theorem dk_nil : DK X [] tNil wNil := ⟨pk_nil, (da_nil (X := X)).wa⟩
theorem dk_cons (he : DE X e te we) (hr : DK X kws t w) : DK X (⟨nm, e, kpos⟩ :: kws) (tCons te t) (wCons we w) := ⟨pk_cons he.pe hr.pk, wa_cons he.we hr.wa⟩
def tPick (pk : List Nat) (t : TA) : TA := fun σ H Q => t σ H fun zs H1 => Q (pick pk zs) H1
def wPick (pk : List Nat) (w : Wa) : Wa := fun ρ Q => w ρ fun rs ρ1 => Q (pick pk rs) ρ1
theorem rrs_at {B : Addr → Prop} {G H : Hp} {σ : L2.St} {ρ : Sl} : ∀ {vs : List V} {rs : List Rz} (i : Nat), RRs K B G H σ ρ vs rs → (∃ v r, vs[i]? = some v ∧ rs[i]? = some r ∧ RR K B G H σ ρ v r ∧ r.cold = true) ∨ (vs[i]? = none ∧ rs[i]? = none)
  | _, _, _, .nil => .inr ⟨by simp, by simp⟩
  | _, _, 0, .cons h c _ => .inl ⟨_, _, rfl, rfl, h, c⟩
  | _, _, i + 1, .cons _ _ t => by simpa using rrs_at i t
theorem rrs_pick {B : Addr → Prop} {G H : Hp} {σ : L2.St} {ρ : Sl} {vs : List V} {rs : List Rz} (h : RRs K B G H σ ρ vs rs) : ∀ pk : List Nat, RRs K B G H σ ρ (pick pk vs) (pick pk rs)
  | [] => .nil
  | i :: pk => by
    unfold pick
    rcases rrs_at i h with ⟨v, r, e1, e2, h1, h2⟩ | ⟨e1, e2⟩
    · rw [List.filterMap_cons_some e1, List.filterMap_cons_some e2]; exact .cons h1 h2 (rrs_pick h pk)
    · rw [List.filterMap_cons_none e1, List.filterMap_cons_none e2]; exact rrs_pick h pk
theorem wa_pick {pk : List Nat} (h : WAa K t w) : WAa K (tPick pk t) (wPick pk w) := fun B G H σ ρ Q QV R q k =>
  h B G H σ ρ _ _ R q fun vs G1 H1 ρ1 rs S1 R1 rr q1 => k _ G1 H1 ρ1 _ S1 R1 (rrs_pick rr pk) q1
theorem vals_pick {vs : List V} {us : List Value} (h : Vals vs us) : ∀ pk : List Nat, Vals (pick pk vs) (pick pk us)
  | [] => .nil
  | i :: pk => by
    unfold pick
    have at_ : ∀ {vs : List V} {us : List Value} (i : Nat), Vals vs us → (∃ v u, vs[i]? = some v ∧ us[i]? = some u ∧ L2.RelV v u) ∨ (vs[i]? = none ∧ us[i]? = none) := by
      intro vs us i h
      induction h generalizing i with
      | nil => exact .inr ⟨by simp, by simp⟩
      | cons r _ ih =>
        cases i with
        | zero => exact .inl ⟨_, _, rfl, rfl, r⟩
        | succ i => simpa using ih i
    rcases at_ i h with ⟨v, u, e1, e2, h1⟩ | ⟨e1, e2⟩
    · rw [List.filterMap_cons_some e1, List.filterMap_cons_some e2]; exact .cons h1 (vals_pick h pk)
    · rw [List.filterMap_cons_none e1, List.filterMap_cons_none e2]; exact vals_pick h pk
theorem de_calKw {KF : PySem.W.Frag} {Ts : List (Addr × Str)} {W : WX} {Ξ : Xp} {k n : Nat} {ps ks : List Str} {pk : List Nat} {F : Fd} (C : CalW X.prog X.w KF Ts X.mg X.base k x ps ks pk F) (hr : Room k X.A) (hgd : X.A.guards = some []) (ha : DK X kws t w) (hW : Takes X.cx W) (lk : Lk X.cx.K X.B0 X.G0 X.H0 Ξ W) (hkn : pk.all (fun i => decide (i < ks.length)) = true) (hK : X.cx.K = KF := by rfl) (hT : X.T = Ts := by rfl) (hg : Gl X x := by rfl)
    (hall : (backToKw pos (keywordEach kws X.env)).all (·.1.isSome) = true := by rfl) (hks : (backToKw pos (keywordEach kws X.env)).filterMap (·.1) = ks := by rfl) (hlen : kws.length = ks.length := by rfl) (hn : pk.length = n := by rfl) (hps : ps.length = n := by rfl)
    (hpl : ((backTo pos (starEach [] X.env)).any (·.1) || (backToKw pos (keywordEach kws X.env)).any (·.1.isNone)) = false := by rfl) (hdb : (x == ("__debug__" : Str)) = false := by decide) :
    DE X (.Call (.Name x p) [] kws pos) (tCallG KF Ts n F W (tPick pk fun σ H Q => t σ H fun zs H1 => zs.length = ks.length ∧ Q zs H1)) (wCall n F Ξ (wPick pk fun ρ Q => w ρ fun rs ρ1 => rs.length = ks.length ∧ Q rs ρ1)) := by
  subst hK hT
  obtain ⟨f, fd, hm, hk, hb, F0⟩ := C.ex
  have hw : WAa X.K (fun σ H Q => t σ H fun zs H1 => zs.length = ks.length ∧ Q zs H1) (fun ρ Q => w ρ fun rs ρ1 => rs.length = ks.length ∧ Q rs ρ1) := fun B G H σ ρ Q QV R q k =>
    ha.wa B G H σ ρ _ _ R q fun vs G1 H1 ρ1 rs S1 R1 rr ⟨l, q1⟩ => ⟨by rw [rrs_len rr]; exact l, k _ G1 H1 ρ1 _ S1 R1 rr q1⟩
  refine ⟨⟨fun pins s σ H Q I h => ?_⟩, we_call (K := X.K) lk (wa_pick hw)⟩
  refine wpAny_Call_Name_kw (ld_glob I hg hm ?_ hdb)
  refine PySem.W.callWith_KW0 (h₀ := X.base) I.ok.mod.kin hk hall (thn (ha.pk.run pos pins s σ H _ I h) fun ws s2 ⟨zs, H2, I2, rz, hz, q2⟩ => ⟨I2.kIn, ?_⟩) hpl
  rw [hks]
  obtain ⟨B, G, as, Q', Ξ', hl, R, hF, hk', hx⟩ := q2
  have hb' := hb s2 ws (by rw [← rz.length]; exact hz)
  refine wpAny_call (codeAny_mono (F0.run X.A X.stack s2 H2 ⟨[], ks.zip ws⟩ _ _ B G as Q' Ξ' Q (fun cls d H' => W cls d σ H') hr hgd I2.env0 hb' (vals_pick rz pk) (by rw [hl]; exact hps.symm) R hF hk' hx) fun r s' hq => ?_)
  match r, hq with
  | .ok (.ret u), hq => exact I2.after hq
  | .ok .next, hq => exact False.elim hq
  | .ok .brk, hq => exact False.elim hq
  | .ok .cont, hq => exact False.elim hq
  | .error e, hq => exact hW e s' (XE.of_call I2 (fun _ _ _ h => h) hq)
end
end DL
namespace DL
open PySem L2
theorem de_constK {X : CxT} {KF : PySem.W.Frag} {mg : Str → Option Value} {x : Str} {d : PD} {pos : Pos} (C : Const KF mg x d) (hK : X.cx.K = KF := by rfl) (hM : X.cx.mg = mg := by rfl) (hg : Gl X x := by rfl) (hd : (x == ("__debug__" : Str)) = false := by decide) : DE X (.Name x pos) (tK KF d) (wC d) := by
  subst hK hM
  exact de_const C hg hd
end DL

set_option Elab.async false
set_option linter.all false
set_option maxRecDepth 100000
set_option maxHeartbeats 2000000
namespace DL
open PySem L2
/-! ### sorted(xs), xs a list of alike data -/
theorem each_of_vals {α : Type} : ∀ {bs : List (V × α)} {us : List Value}, Vals (bs.map (·.1)) us → PySem.W.EachIs (fun u (b : V × α) => RelV b.1 u) us bs
  | [], _, .nil => .nil
  | _ :: _, _, .cons h t => .cons h (each_of_vals t)
theorem vals_of_each {α : Type} : ∀ {bs : List (V × α)} {us : List Value}, PySem.W.EachIs (fun u (b : V × α) => RelV b.1 u) us bs → Vals (bs.map (·.1)) us
  | [], _, .nil => .nil
  | _ :: _, _, .cons h t => .cons h (vals_of_each t)
/-- what sorted asks of its items -/
def SortOk (es : List PyData) : Prop := PySem.W.AllAlike es ∧ PySem.W.Sortable es ∧ ∀ e ∈ es, e.depth ≤ 60
def leD : PD → PD → Bool := PySem.W.dataLe false PD.py
def rSortD (K : PySem.W.Frag) : List V → Hp → VK → Prop := fun vs H Q => ∃ (a : Addr) (bs : List (V × PD)), vs = [V.ref a] ∧ SqL K H a (bs.map (·.1)) ∧ (∀ b ∈ bs, Dp K H b.1 b.2.py) ∧ SortOk (bs.map fun b => b.2.py) ∧
  ∀ p : Addr, H p = none → Q (.ref p) (upd H p (.lst ((bs.mergeSort (PySem.W.dataLe false fun b => b.2.py)).map (·.1))))
section
variable {X : CxT}
theorem each_reads {pins : List (Addr × Obj)} {σ : L2.St} {H : Hp} {s : Shared} {Y : Cx} (I : Inv Y pins σ H s) : ∀ {bs : List (V × PD)} {us : List Value}, Vals (bs.map (·.1)) us → (∀ b ∈ bs, Dp Y.K H b.1 b.2.py) → PySem.W.EachIs (fun u (b : V × PD) => ∃ as, Reads s.heap u b.2.py as) us bs
  | [], _, .nil, _ => .nil
  | b :: bs, _, .cons h t, hd => .cons (let ⟨as, r⟩ := Dp.reads I _ _ _ (hd b List.mem_cons_self) h; ⟨as, r⟩) (each_reads I t fun c hc => hd c (List.mem_cons_of_mem _ hc))
theorem call_sorted (hu : X.cx.A.units + 66 < cLine) : CallR X (.builtin "sorted") (rSortD X.K) := by
  intro pins s σ H xs us Q I r h
  obtain ⟨a, bs, rfl, hs, hd, ⟨o1, o2, o3⟩, q⟩ := h
  obtain ⟨its, rv, hl, hz⟩ := I.list hs
  rw [Vals.ref1 r]
  rw [List.length_map] at hz
  refine PySem.W.sorted_data (enc := fun b : V × PD => b.2.py) hl.isList (each_of_vals rv) (each_reads I rv hd) o1 o2 hz (fun b hb => ?_) fun out h1 h2 => ?_
  · have := o3 _ (List.mem_map.mpr ⟨b, hb, rfl⟩)
    omega
  · obtain ⟨ep, at'⟩ := PyProof.Rows.sortedAll_at s.heap its out.toArray
    have many : ((bs.mergeSort (PySem.W.dataLe false fun b : V × PD => b.2.py)).map (·.1)).length ≤ sizeLine := by rw [List.length_map, List.length_mergeSort]; exact hz
    exact ⟨V.ref _, upd H (s.heap.objs.size + 1) (.lst ((bs.mergeSort (PySem.W.dataLe false fun b : V × PD => b.2.py)).map (·.1))), I.laid (t' := s.toks) (fun _ _ => PyProof.Rows.sortedAll_old) (Nat.le_succ _) ⟨many, out, ep, vals_of_each h2, at'⟩, rfl, q _ (I.hok.fresh (Nat.le_succ _))⟩
theorem zip_fst {α β : Type} : ∀ {xs : List α} {ys : List β}, xs.length = ys.length → (xs.zip ys).map (·.1) = xs ∧ (xs.zip ys).map (·.2) = ys
  | [], [], _ => ⟨rfl, rfl⟩
  | x :: xs, y :: ys, h => by
    obtain ⟨h1, h2⟩ := zip_fst (xs := xs) (ys := ys) (by simpa using h)
    exact ⟨by rw [List.zip_cons_cons, List.map_cons, h1], by rw [List.zip_cons_cons, List.map_cons, h2]⟩
theorem RpAll.each {K : PySem.W.Frag} {G : Hp} : ∀ {us : List V} {ds : List PD}, RpAll K G us ds → us.length = ds.length ∧ ∀ b ∈ us.zip ds, Rp K G b.1 b.2
  | _, _, .nil => ⟨rfl, fun b hb => nomatch hb⟩
  | _, _, .cons h t => by
    obtain ⟨h1, h2⟩ := RpAll.each t
    refine ⟨congrArg (· + 1) h1, fun b hb => ?_⟩
    rcases List.mem_cons.mp hb with e | hb
    · subst e; exact h
    · exact h2 b hb
theorem RpAll.of_each {K : PySem.W.Frag} {G : Hp} : ∀ {bs : List (V × PD)}, (∀ b ∈ bs, Rp K G b.1 b.2) → RpAll K G (bs.map (·.1)) (bs.map (·.2))
  | [], _ => .nil
  | b :: bs, h => .cons (h b List.mem_cons_self) (RpAll.of_each fun c hc => h c (List.mem_cons_of_mem _ hc))
def dSorted : Dn := fun ds k => match ds with
  | [.lst xs] => (∀ x ∈ xs, x.plain = true) ∧ SortOk (xs.map PD.py) ∧ k (.own (.lst (xs.mergeSort leD)))
  | _ => False
theorem db_sorted (hu : X.cx.A.units + 66 < cLine) : DB X (.builtin "sorted") (rSortD X.K) dSorted := by
  refine ⟨call_sorted hu, fun B G H σ ρ xs ds Q QV R hv q k => ?_⟩
  match ds, hv, q with
  | [.lst ys], .cons h .nil, ⟨p, so, q⟩ =>
    obtain ⟨a, us, rfl, ha, ra⟩ := h.lst R.gh
    obtain ⟨e1, e2⟩ := RpAll.each ra
    obtain ⟨z1, z2⟩ := zip_fst e1
    refine ⟨a, us.zip ys, rfl, by rw [z1]; exact SqL.of ha, fun b hb => ?_, ?_, fun n hn => ?_⟩
    · refine Rp.dp R.gh (e2 b hb) (p _ ?_)
      rw [← z2]; exact List.mem_map.mpr ⟨b, hb, rfl⟩
    · have e : (us.zip ys).map (fun b => b.2.py) = ys.map PD.py := by
        conv => rhs; rw [← z2, List.map_map]
        rfl
      rw [e]; exact so
    · have r2 := RpAll.of_each (K := X.K.F) (G := G) (bs := (us.zip ys).mergeSort (PySem.W.dataLe false fun b => b.2.py)) fun b hb => e2 b (List.mem_mergeSort.mp hb)
      have e3 : ((us.zip ys).mergeSort (PySem.W.dataLe false fun b => b.2.py)).map (fun x => x.2) = ys.mergeSort leD := by
        have := List.map_mergeSort (r := PySem.W.dataLe false fun b : V × PD => b.2.py) (s := leD) (f := fun x : V × PD => x.2) (l := us.zip ys) (fun _ _ _ _ => rfl)
        rw [z2] at this
        exact this
      rw [e3] at r2
      exact k.new R hn (.lst r2) q
end
/-! ### a tuple over and over -/
theorem tup_same (l : Addr) (its : Array Value) (n : Nat) (dx : Option Addr) (so : Array (Option Value)) (u : Tok) :
    Meets (Builtin.«tuple.__mul__» ⟨[.ref l, .int 1 u], []⟩) (fun _ R s => s.heap.get? l = some { cls := .type "tuple", dict := dx, data := .seq its n, slots := so } ∧ R (.ok (.ret (Value.ref l))) s) :=
  .of_wp fun prog w A R s h => by
    obtain ⟨hp, gn, db, tk, os⟩ := s
    obtain ⟨hl, h⟩ := h
    have f1 := AutoSeq1.idx_int
    have one : (its.isEmpty || (1 : Int) == 1) = true := by rw [Bool.or_eq_true]; exact .inr rfl
    wp_walk using wpAny_loadPart' hl
    exact ⟨_, rfl, h⟩
theorem tup_none (l : Addr) (its : Array Value) (n : Nat) (dx : Option Addr) (so : Array (Option Value)) (x : Int) (u : Tok) (b0 : (decide (x < -(2 ^ 63)) || decide (x ≥ 2 ^ 63)) = false) (b1 : (its.isEmpty || x == 1) = false) (b2 : (decide (x ≤ 0) || its.isEmpty) = true) :
    Meets (Builtin.«tuple.__mul__» ⟨[.ref l, .int x u], []⟩) (fun _ R s => s.heap.get? l = some { cls := .type "tuple", dict := dx, data := .seq its n, slots := so } ∧
      R (.ok (.ret (Value.ref s.heap.objs.size))) { s with heap := s.heap.push { cls := Value.type "tuple", data := Data.seq #[] }, toks := s.toks }) :=
  .of_wp fun prog w A R s h => by
    obtain ⟨hp, gn, db, tk, os⟩ := s
    obtain ⟨hl, h⟩ := h
    have f1 := AutoSeq1.idx_int
    wp_walk using wpAny_loadPart' hl
    repeat (first
      | (refine wpAny_ite_false (decide_eq_false (by rw [b0]; exact nofun)) ?_; wp_walk using wpAny_loadPart' hl)
      | (refine wpAny_ite_false (decide_eq_false (by rw [b1]; exact nofun)) ?_; wp_walk using wpAny_loadPart' hl)
      | (refine wpAny_ite_true (decide_eq_true b2) ?_; wp_walk using wpAny_loadPart' hl))
    exact ⟨_, rfl, h⟩
def rTm (K : PySem.W.Frag) : R2 := fun x y H Q => ∃ l k xs, x = .ref l ∧ y = .int k ∧ SqT K H l xs ∧ xs ≠ [] ∧ -1000 ≤ k ∧ k ≤ 1000 ∧ xs.length ≤ 1000 ∧ (k = 1 → Q (.ref l) H) ∧ (k ≠ 1 → ∀ p, H p = none → Q (.ref p) (upd H p (.tup (List.replicate k.toNat xs).flatten)))
theorem op_tm {X : Cx} : OpR X (binaryOp .Mult) (rTm X.K) := by
  intro pins s σ H x y v u Q I rx ry h
  obtain ⟨l, k, xs, rfl, rfl, hT, ne, k0, k1, hz, q1, q2⟩ := h
  by_cases big : 2 ≤ k
  · exact op_repT pins s σ H _ _ v u Q I rx ry ⟨l, k, xs, rfl, rfl, hT, ne, big, k1, hz, q2 (by omega)⟩
  cases rx
  obtain ⟨t, rfl⟩ := ry
  obtain ⟨its, r, ⟨⟨cls, dx, data, so⟩, ho, hc, n, hd⟩, hs⟩ := I.tuple hT
  simp only at hc hd
  subst hc hd
  by_cases one : k = 1
  · subst one
    refine wpAny_binaryOp_repeat_ref (U := "int") (T := "tuple") (by decide) ⟨_, ho, rfl⟩ (fun s2 => typeIs_int s2 1 t) noFill_tuple_mul F.fills_int_mul F.slot_int_rmul repeat_tuple F.slot_int_index.lookup
      (call_meets F.slot_int_rmul (typeIs_int s 1 t) F.entry_int_rmul (F.args_int_rmul_2 _ _) (int_rmul_tuple 1 t l its.toArray n dx so)
        ⟨ho, rfl, ⟨_, ho, rfl⟩, call_meets F.slot_tuple_mul ⟨_, ho, rfl⟩ F.entry_tuple_mul (F.args_tuple_mul_2 _ _) (tup_same l its.toArray n dx so t) ⟨ho, ?_⟩⟩)
    exact ⟨.ref l, H, I, rfl, q1 rfl⟩
  · have low : k ≤ 0 := by omega
    have full : its.toArray.isEmpty = false := by
      cases its with
      | nil =>
        have := r.length
        exact absurd (List.eq_nil_of_length_eq_zero this) ne
      | cons a b => rfl
    have b0 : (decide (k < -(2 ^ 63)) || decide (k ≥ 2 ^ 63)) = false := by
      rw [decide_eq_false (by omega), decide_eq_false (by omega)]; rfl
    have b1 : (its.toArray.isEmpty || k == 1) = false := by
      rw [full, Bool.false_or]
      exact beq_eq_false_iff_ne.mpr one
    have b2 : (decide (k ≤ 0) || its.toArray.isEmpty) = true := by
      rw [decide_eq_true low]; rfl
    have kz : k.toNat = 0 := by omega
    have q3 := q2 one
    rw [kz] at q3
    refine wpAny_binaryOp_repeat_ref (U := "int") (T := "tuple") (by decide) ⟨_, ho, rfl⟩ (fun s2 => typeIs_int s2 k t) noFill_tuple_mul F.fills_int_mul F.slot_int_rmul repeat_tuple F.slot_int_index.lookup
      (call_meets F.slot_int_rmul (typeIs_int s k t) F.entry_int_rmul (F.args_int_rmul_2 _ _) (int_rmul_tuple k t l its.toArray n dx so)
        ⟨ho, rfl, ⟨_, ho, rfl⟩, call_meets F.slot_tuple_mul ⟨_, ho, rfl⟩ F.entry_tuple_mul (F.args_tuple_mul_2 _ _) (tup_none l its.toArray n dx so k t b0 b1 b2) ⟨ho, ?_⟩⟩)
    exact ⟨.ref s.heap.objs.size, upd H s.heap.objs.size (.tup []), I.laid (t' := s.toks) (o := .tup []) (fun _ _ z => Heap.get?_push_of_some _ z) (Nat.le_refl _) ⟨Nat.zero_le _, [], .nil, PyProof.Rows.IsTup.new _ _⟩, rfl, q3 _ (I.hok.fresh (Nat.le_refl _))⟩
theorem RpAll.plus {K : PySem.W.Frag} {G : Hp} : ∀ {us vs : List V} {ds es : List PD}, RpAll K G us ds → RpAll K G vs es → RpAll K G (us ++ vs) (ds ++ es)
  | _, _, _, _, .nil, h => h
  | _, _, _, _, .cons a b, h => .cons a (RpAll.plus b h)
theorem RpAll.times {K : PySem.W.Frag} {G : Hp} {us : List V} {ds : List PD} (h : RpAll K G us ds) : ∀ n : Nat, RpAll K G (List.replicate n us).flatten (List.replicate n ds).flatten
  | 0 => .nil
  | n + 1 => by
    rw [List.replicate_succ, List.replicate_succ, List.flatten_cons, List.flatten_cons]
    exact RpAll.plus h (RpAll.times h n)
def dTm : D2 := fun x y k => match x, y with
  | .tup xs, .int n => xs ≠ [] ∧ (-1000 ≤ n ∧ n ≤ 1000) ∧ xs.length ≤ 1000 ∧ k (.dat (.tup (List.replicate n.toNat xs).flatten))
  | _, _ => False
theorem ok2_tm {K : KT} : Ok2 K (rTm K.F) dTm := by
  intro B G H σ ρ x y dx dy Q QV R vx vy q k
  match dx, dy, vx, vy, q with
  | .tup ds, .int n, vx, vy, ⟨ne, ⟨n0, n1⟩, hz, q⟩ =>
    have w := vx.tupR
    obtain ⟨a, us, rfl, ha, ra⟩ := vx.tup R.gh
    have hl := (RpAll.each ra).1
    refine ⟨a, n, us, rfl, vy.int, ha, fun e => ne (by rw [e] at hl; exact List.eq_nil_of_length_eq_zero hl.symm), n0, n1, by omega, fun e => ?_, fun _ p hp => k.tup R hp (ra.times n.toNat) q⟩
    subst e
    have : (List.replicate (1 : Int).toNat ds).flatten = ds := by simp
    rw [this] at q
    exact k.dat R w q
section
variable {X : CxT}
theorem de_tm {a b : Expr} {pos : Pos} {ta tb : TE} {wa wb : We} (ha : DE X a ta wa) (hb : DE X b tb wb) : DE X (.BinOp a .Mult b pos) (tOp (rTm X.cx.K) ta tb) (wBin dTm wa wb) := ⟨pe_op op_tm ha.pe hb.pe, we_bin ok2_tm ha.we hb.we⟩
end
end DL

set_option Elab.async false
set_option linter.all false
set_option maxRecDepth 100000
set_option maxHeartbeats 2000000
namespace DL
open PySem L2 PySem.Spec PyProof.Rows
/-! ### zip of a list or a tuple with a list or a tuple (true: a list) -/
def SqX (K : PySem.W.Frag) (l : Bool) (H : Hp) (a : Addr) (xs : List V) : Prop := match l with
  | true => SqL K H a xs
  | false => SqT K H a xs
def ItX (l : Bool) (h : Heap) (it a : Addr) (i : Nat) : Prop := match l with
  | true => h.IsListIter it a i
  | false => h.IsTupleIter it a i
def SeqX (l : Bool) (h : Heap) (a : Addr) (its : Array Value) : Prop := match l with
  | true => h.IsList a its
  | false => h.IsTuple a its
def objX (l : Bool) (a : Addr) : Obj := match l with
  | true => { cls := .type "list_iterator", data := .fields #[.ref a, .int 0 0] }
  | false => { cls := .type "tuple_iterator", data := .fields #[.ref a, .int 0 0] }
theorem beg_x (l : Bool) (a : Addr) (its : Array Value) : Begins (.ref a) (objX l a) fun h => SeqX l h a its := match l with
  | true => begins_list a its
  | false => begins_tuple a its
theorem it_x {l : Bool} {h : Heap} {it a : Addr} (e : h.get? it = some (objX l a)) : ItX l h it a 0 := match l, e with
  | true, e => ⟨_, e, rfl, rfl⟩
  | false, e => ⟨_, e, rfl, rfl⟩
theorem ItX.moved {l : Bool} {h h' : Heap} {it a : Addr} {i : Nat} (s : ItX l h it a i) (k : ∀ o, h.get? it = some o → h'.get? it = some o) : ItX l h' it a i := match l, s with
  | true, s => Heap.IsListIter.at s k
  | false, s => Heap.IsTupleIter.at s k
theorem ItX.live {l : Bool} {h : Heap} {it a : Addr} {i : Nat} (s : ItX l h it a i) : ∃ o, h.get? it = some o ∧ ∀ v, o.data ≠ .cell v := match l, s with
  | true, ⟨o, e, _, d⟩ => ⟨o, e, fun v q => by rw [d] at q; cases q⟩
  | false, ⟨o, e, _, d⟩ => ⟨o, e, fun v q => by rw [d] at q; cases q⟩
theorem draw_x {prog : Program} {w : World} {A : Around} (hh : A.handled = none) (l : Bool) (it a : Addr) (hne : a ≠ it) (its : Array Value) :
    Draws prog w A it [it, a] its.size (fun i v => its[i]? = some v) (fun i h => ItX l h it a i ∧ SeqX l h a its) := match l with
  | true => Draws.list hh it a hne its
  | false => Draws.tuple hh it a hne its
theorem draw_xe {prog : Program} {w : World} {A : Around} (hh : A.handled = none) (l : Bool) (it a : Addr) (its : Array Value) (i : Nat) (hi : its[i]? = none) :
    Draws prog w A it [it, a] i (fun _ _ => True) (fun j h => j = i ∧ ItX l h it a i ∧ SeqX l h a its) where
  live := fun _ _ st => let ⟨o, ho, _⟩ := st.2.1.live; ⟨o, ho⟩
  frame := fun _ _ _ st hk => ⟨st.1, st.2.1.moved fun o e => hk it (by simp) o e, match l, st.2.2 with
    | true, z => Heap.IsList.at z fun o e => hk a (by simp) o e
    | false, z => Heap.IsTuple.at z fun o e => hk a (by simp) o e⟩
  item := fun j s Q E hj st hQ => absurd st.1 (by omega)
  done := fun s Q E st hE => match l, st.2 with
    | true, st => wpAny_nextOf_list_end hh st.1 st.2 hi hE
    | false, st => wpAny_nextOf_tuple_end hh st.1 st.2 hi hE
theorem SqX.seq {X : Cx} {pins : List (Addr × Obj)} {σ : L2.St} {H : Hp} {s : Shared} {l : Bool} {a : Addr} {xs : List V} (I : Inv X pins σ H s) (h : SqX X.K l H a xs) : ∃ its : List Value, Vals xs its ∧ SeqX l s.heap a its.toArray ∧ a < s.heap.objs.size := match l, h with
  | true, h => let ⟨its, rv, p, _⟩ := I.list h; ⟨its, rv, p.isList, p.lt⟩
  | false, h => let ⟨its, rv, p, _⟩ := I.tuple h; ⟨its, rv, p, by obtain ⟨_, q, _⟩ := id p; exact Heap.lt_size q⟩
theorem SqX.inj {X : Cx} {pins : List (Addr × Obj)} {σ : L2.St} {H : Hp} {s : Shared} {l : Bool} {a : Addr} {xs ys : List V} (I : Inv X pins σ H s) (h : SqX X.K l H a xs) (h' : SqX X.K l H a ys) : xs = ys := match l, h, h' with
  | true, h, h' => I.list_inj h h'
  | false, h, h' => I.tuple_inj h h'
def ItzM (K : PySem.W.Frag) (l l' : Bool) (a b : Addr) : It :=
  ⟨fun i H => ∃ (xs ys : List V) (x y : V), SqX K l H a xs ∧ SqX K l' H b ys ∧ xs[i]? = some x ∧ ys[i]? = some y,
    fun i H v H' => ∃ t x y, v = .ref t ∧ H t = none ∧ H' = upd H t (.tup [x, y]) ∧ (∀ xs, SqX K l H a xs → xs[i]? = some x) ∧ ∀ ys, SqX K l' H b ys → ys[i]? = some y,
    fun i H => ∃ xs ys : List V, SqX K l H a xs ∧ SqX K l' H b ys ∧ (xs.length ≤ i ∨ ys.length ≤ i)⟩
structure Sep (z TI TO i1 i2 a b : Addr) : Prop where
  S : ZipSep2 z TI TO i1 i2 [i1, a] [i2, b]
  n1 : a ≠ i1
  n2 : b ≠ i2
theorem turn_zipM {P : Program} {w : World} {K : PySem.W.Frag} {elts : List Expr} {kk : Nat} {tpos : Pos} {l l' : Bool} {a b z TI TO i1 i2 : Addr} (D : Sep z TI TO i1 i2 a b) :
    Turn P w K (.Tuple elts kk tpos) (ItzM K l l' a b) [z, TI, TO, i1, i2] z (fun i h => IsZip h z TI TO .none ∧ IsTupOf2 h TI (.ref i1) (.ref i2) ∧ (∃ x y, IsTupOf2 h TO x y) ∧ ItX l h i1 a i ∧ ItX l' h i2 b i) where
  mem := by simp
  obj := fun i h st c hc => by
    obtain ⟨hz, hTI, ⟨x, y, hTO⟩, h1, h2⟩ := st
    rcases (show c = z ∨ c = TI ∨ c = TO ∨ c = i1 ∨ c = i2 by simpa using hc) with rfl | rfl | rfl | rfl | rfl
    · exact ⟨_, hz, fun v q => nomatch q⟩
    · exact ⟨_, hTI, fun v q => nomatch q⟩
    · exact ⟨_, hTO, fun v q => nomatch q⟩
    · exact h1.live
    · exact h2.live
  keep := fun i h h' st k => by
    obtain ⟨hz, hTI, ⟨x, y, hTO⟩, h1, h2⟩ := st
    exact ⟨k z (by simp) _ hz, k TI (by simp) _ hTI, ⟨x, y, k TO (by simp) _ hTO⟩, h1.moved fun o q => k i1 (by simp) o q, h2.moved fun o q => k i2 (by simp) o q⟩
  item := by
    intro X hP hw hK hc i pins s σ H E I hf st hg
    subst hP hw hK
    obtain ⟨hz, hTI, ⟨x0, y0, hTO⟩, h1, h2⟩ := st
    obtain ⟨xs, ys, x, y, hqx, hqy, hx, hy⟩ := hg
    obtain ⟨us, rv, p1, _⟩ := SqX.seq I hqx
    obtain ⟨ws, rv2, p2, _⟩ := SqX.seq I hqy
    obtain ⟨u, hu, ru⟩ := rv.get hx
    obtain ⟨v, hv, rw'⟩ := rv2.get hy
    have hu' : us.toArray[i]? = some u := by simpa using hu
    have hv' : ws.toArray[i]? = some v := by simpa using hv
    have zl : z < s.heap.objs.size := Heap.lt_size hz
    have Da := draw_x (prog := X.prog) (w := X.w) (A := X.A.in1) (show X.A.in1.handled = none from I.ok.hd hc) l i1 a D.n1 us.toArray
    have Db := draw_x (prog := X.prog) (w := X.w) (A := X.A.in1) (show X.A.in1.handled = none from I.ok.hd hc) l' i2 b D.n2 ws.toArray
    refine wpAny_pyNext_zipD2_item D.S Da Db hz hTI hTO ⟨h1, p1⟩ ⟨h2, p2⟩ (Array.getElem?_eq_some_iff.mp hu').1 (Array.getElem?_eq_some_iff.mp hv').1 fun x1 x2 h' tk q1 q2 z' TO' s1 s2 hT hsz hk => ?_
    have e1 : x1 = u := Option.some.inj (q1.symm.trans hu')
    have e2 : x2 = v := Option.some.inj (q2.symm.trans hv')
    subst e1 e2
    refine ⟨_, rfl, wpAny_letOwnedTupleGo_zip (s := { s with heap := h', toks := tk }) z' fun h'' z'' sb => ?_⟩
    have hT2 : h''.get? s.heap.objs.size = some { cls := .type "tuple", data := .seq #[x1, x2] } := (sb.2 _ (Nat.ne_of_gt zl)).trans hT
    have made : ObjOk X.prog X.w (upd H s.heap.objs.size (.tup [x, y])) h'' s.heap.objs.size (.tup [x, y]) := ⟨by show 2 ≤ sizeLine; decide, [x1, x2], .cons ru (.cons rw' .nil), ⟨_, hT2, rfl, _, rfl⟩⟩
    have I1 : Inv X pins σ (upd H s.heap.objs.size (.tup [x, y])) { s with heap := h'', toks := tk } :=
      I.turnedNew (t' := tk) (ch := [z, TI, TO, i1, i2]) (fun c o hb q => (sb.2 c (fun e => hb (by simp [e]))).trans (hk c o (fun e => hb (by simp [e])) (fun e => hb (by simp [e])) (fun e => hb (by simp [e])) (fun e => hb (by simp [e])) q)) hf (Nat.le_refl _) made
    refine ⟨.ref s.heap.objs.size, _, I1, rfl, ⟨_, x, y, rfl, I.hok.fresh (Nat.le_refl _), rfl, fun m hm => by rw [SqX.inj I hm hqx]; exact hx, fun m hm => by rw [SqX.inj I hm hqy]; exact hy⟩, ⟨z'', ?_, ⟨x1, x2, ?_⟩, ?_, ?_⟩, fun c hcm => ?_⟩
    · exact (sb.2 _ D.S.TIz).trans (hk _ _ D.S.TIz D.S.TITO D.S.TIi1 D.S.TIi2 hTI)
    · exact (sb.2 _ D.S.TOz).trans TO'
    · exact s1.1.moved fun o q => (sb.2 _ (Ne.symm D.S.zi1)).trans q
    · exact s2.1.moved fun o q => (sb.2 _ (Ne.symm D.S.zi2)).trans q
    · have hlt : c < s.heap.objs.size := by
        rcases (show c = z ∨ c = TI ∨ c = TO ∨ c = i1 ∨ c = i2 by simpa using hcm) with rfl | rfl | rfl | rfl | rfl
        · exact zl
        · exact Heap.lt_size hTI
        · exact Heap.lt_size hTO
        · obtain ⟨_, e, _⟩ := h1.live; exact Heap.lt_size e
        · obtain ⟨_, e, _⟩ := h2.live; exact Heap.lt_size e
      rw [upd_ne (Nat.ne_of_lt hlt)]
      exact (hf c hcm).1
  done := by
    intro X hP hw hK hc i pins s σ H E I hf st hg
    subst hP hw hK
    obtain ⟨hz, hTI, ⟨x0, y0, hTO⟩, h1, h2⟩ := st
    obtain ⟨xs, ys, hqx, hqy, hend⟩ := hg
    obtain ⟨us, rv, p1, _⟩ := SqX.seq I hqx
    obtain ⟨ws, rv2, p2, _⟩ := SqX.seq I hqy
    have l1 := rv.length
    have l2 := rv2.length
    have hh : X.A.in1.handled = none := I.ok.hd hc
    have fin : ∀ h' tk, (∀ c o, c ≠ z → c ≠ TO → c ≠ i1 → c ≠ i2 → s.heap.get? c = some o → h'.get? c = some o) → (fun (r : Option Value) s' => r = none ∧ Inv X pins σ H s') none { s with heap := h', toks := tk } := fun h' tk hk => ⟨rfl, I.turnedL (t' := tk) (ch := [z, TI, TO, i1, i2]) (fun c o hb q =>
      hk c o (fun e => hb (by simp [e])) (fun e => hb (by simp [e])) (fun e => hb (by simp [e])) (fun e => hb (by simp [e])) q) hf⟩
    by_cases c1 : xs.length ≤ i
    · have Da := draw_xe (prog := X.prog) (w := X.w) hh l i1 a us.toArray i (by simp; omega)
      by_cases c2 : ys.length ≤ i
      · exact wpAny_pyNext_zipD2_end D.S Da (draw_xe (prog := X.prog) (w := X.w) hh l' i2 b ws.toArray i (by simp; omega)) hz hTI hTO ⟨rfl, h1, p1⟩ ⟨rfl, h2, p2⟩ (Nat.le_refl _) (Nat.le_refl _) (.inl rfl) fin
      · exact wpAny_pyNext_zipD2_end D.S Da (draw_x hh l' i2 b D.n2 ws.toArray) hz hTI hTO ⟨rfl, h1, p1⟩ ⟨h2, p2⟩ (Nat.le_refl _) (by simp; omega) (.inl rfl) fin
    · have c2 : ys.length ≤ i := hend.resolve_left c1
      exact wpAny_pyNext_zipD2_end D.S (draw_x hh l i1 a D.n1 us.toArray) (draw_xe (prog := X.prog) (w := X.w) hh l' i2 b ws.toArray i (by simp; omega)) hz hTI hTO ⟨h1, p1⟩ ⟨rfl, h2, p2⟩ (by simp; omega) (Nat.le_refl _) (.inr rfl) fin
  self := fun A i s Q E st h => wpAny_pyIter_zip st.1 h
theorem addr_ne {x y : Nat} (h : x < y ∨ y < x) : (x : Addr) ≠ (y : Addr) := fun e => by
  have e : x = y := e
  omega
theorem not_in2 {x y z : Addr} (h : x ≠ y) (h' : x ≠ z) : x ∉ [y, z] := fun m => by
  rcases List.mem_cons.mp m with e | m
  · exact h e
  · rcases List.mem_cons.mp m with e | m
    · exact h' e
    · cases m
theorem sep_of (I a b : Nat) (h1 : a < I) (h2 : b < I) : Sep (I + 4) (I + 2) (I + 3) I (I + 1) a b where
  S := {
    TIz := addr_ne (by omega)
    TOz := addr_ne (by omega)
    TITO := addr_ne (by omega)
    TIi1 := addr_ne (by omega)
    mem1 := List.mem_cons_self
    zf1 := not_in2 (addr_ne (by omega)) (addr_ne (by omega))
    Tf1 := not_in2 (addr_ne (by omega)) (addr_ne (by omega))
    TIi2 := addr_ne (by omega)
    mem2 := List.mem_cons_self
    zf2 := not_in2 (addr_ne (by omega)) (addr_ne (by omega))
    Tf2 := not_in2 (addr_ne (by omega)) (addr_ne (by omega))
    sep1_2 := not_in2 (addr_ne (by omega)) (addr_ne (by omega))
    sep2_1 := not_in2 (addr_ne (by omega)) (addr_ne (by omega)) }
  n1 := addr_ne (by omega)
  n2 := addr_ne (by omega)
def iZipX (K : PySem.W.Frag) (ta : TA) : TI := fun σ H R => ta σ H fun vs H1 => ∃ a b xs ys l l', vs = [.ref a, .ref b] ∧ SqX K l H1 a xs ∧ SqX K l' H1 b ys ∧ R (ItzM K l l' a b) H1
theorem pi_zipX {X : Cx} {e e2 : Expr} {ta : TA} {p pos tpos : Pos} {elts : List Expr} {kk : Nat} (hg : Gl X "zip") (hm : X.mg "zip" = none) (ha : PA X [e, e2] ta)
    (hs : starEach [e, e2] X.env = (false, eval e X.env) :: starEach [e2] X.env := by rfl) (hpl : (backTo pos (starEach [e2] X.env)).any (·.1) = false := by rfl) :
    PI X (.Tuple elts kk tpos) (.Call (.Name "zip" p) [e, e2] [] pos) (iZipX X.K ta) := by
  refine ⟨fun pins s σ H R I hh => ?_⟩
  refine Call_ (ld_blt I hg hm boot_zip (PyProof.Rows.callWith_type1 (thn (ha.run pos pins s σ H _ I hh) fun us s1 ⟨vs, H1, I1, r1, a, b, xs, ys, l, l', ev, hqx, hqy, q⟩ => ?_) hs hpl))
  subst ev
  cases r1 with
  | cons r rr =>
    cases rr with
    | cons r' rr =>
      cases rr; cases r; cases r'
      obtain ⟨ms, rv, p1, lt1⟩ := SqX.seq I1 hqx
      obtain ⟨ns, rv2, p2, lt2⟩ := SqX.seq I1 hqy
      have fp : ∀ c ∈ [s1.heap.objs.size + 4, s1.heap.objs.size + 2, s1.heap.objs.size + 3, s1.heap.objs.size, s1.heap.objs.size + 1], s1.heap.objs.size ≤ c := fun c hc => by
        rcases (show c = s1.heap.objs.size + 4 ∨ c = s1.heap.objs.size + 2 ∨ c = s1.heap.objs.size + 3 ∨ c = s1.heap.objs.size ∨ c = s1.heap.objs.size + 1 by simpa using hc) with rfl | rfl | rfl | rfl | rfl <;> omega
      refine zip_begins2 (beg_x l a ms.toArray) (beg_x l' b ns.toArray) p1 p2 fun h' hz hTI hTO g1 g2 hsz hk => wpAny_pyIter_zip hz ?_
      exact ⟨s1.heap.objs.size + 4, [s1.heap.objs.size + 4, s1.heap.objs.size + 2, s1.heap.objs.size + 3, s1.heap.objs.size, s1.heap.objs.size + 1], _, _, H1, rfl, I1.kept (t' := s1.toks) hk, turn_zipM (sep_of _ a b lt1 lt2), ⟨hz, hTI, ⟨_, _, hTO⟩, it_x g1, it_x g2⟩, fun c hc => I1.fpOk (fp c hc) (I1.hok.fresh (fp c hc)), q⟩
section
variable {X : CxT} {K : KT} {e e2 : Expr} {p pos : Pos}
theorem it_zipX {G0 : Hp} {l l' : Bool} {q q' : Addr} {vs ws : List V} {ds es : List PD} (hG : ∀ G H, Ex G0 G → Ex G H → SqX K l H q vs ∧ SqX K l' H q' ws) (hi : ∀ (H : Hp) (xs : List V), True) (r : RpAll K G0 vs ds) (r' : RpAll K G0 ws es) : ItOk K G0 (ItzM K l l' q q') (zipP ds es) := fun B σ ρ G H e R => by
  obtain ⟨hq, hq'⟩ := hG G H e R.gh
  refine ⟨fun i hi => ⟨vs, ws, hq, hq', by rw [r.length, r'.length]; exact zipP_len hi⟩, fun i d hd => ?_⟩
  obtain ⟨x, y, hx, hy, rfl⟩ := zipP_get hd
  obtain ⟨v, hv, rv⟩ := r.get hx
  obtain ⟨w, hw, rw'⟩ := r'.get hy
  refine ⟨⟨vs, ws, v, w, hq, hq', hv, hw⟩, fun z H' ⟨t, x1, y1, ez, ht, eH, h1, h2⟩ => ?_⟩
  have e1 := h1 vs hq
  have e2 := h2 ws hq'
  rw [hv] at e1; cases e1
  rw [hw] at e2; cases e2
  subst ez; subst eH
  exact fresh_tup R ht (.cons (rv.mono e) (.cons (rw'.mono e) .nil))
/-- the items of a list, of a tuple -/
def seqP : PD → Option (List PD)
  | .lst xs => some xs
  | .tup xs => some xs
  | _ => none
def wZipX (wa : Wa) : Wi := fun ρ Q => wa ρ fun rs ρ1 => frz rs ρ1 fun ds ρ2 => match ds with
  | [d, d'] => ok (seqP d) fun xs => ok (seqP d') fun ys => Q (zipP xs ys) ρ2
  | _ => False
theorem seq_x {G : Hp} {v : V} {d : PD} {xs : List PD} (h : Rp K G v d) (e : seqP d = some xs) : ∃ a vs l, v = .ref a ∧ RpAll K G vs xs ∧ ∀ H, Ex G H → SqX K l H a vs := by
  cases h with
  | lst hg r => cases e; exact ⟨_, _, true, rfl, r, fun H x => SqL.of (x _ _ hg nt_lst)⟩
  | tup hg r => cases e; exact ⟨_, _, false, rfl, r, fun H x => ex_t x hg⟩
  | _ => cases e
theorem wi_zipX {t : TA} {wa : Wa} (h : WAa K t wa) : WIi K (iZipX K t) (wZipX wa) := fun B G H σ ρ Q QJ R q k =>
  h B G H σ ρ _ _ R q fun vs G1 H1 ρ1 rs S1 R1 rr q1 => by
    obtain ⟨⟨ds, ρ2⟩, e, q1⟩ := ok_some q1
    obtain ⟨G2, S2, R2, ra⟩ := frz_all R1 rr e
    match ds, ra, q1 with
    | [d, d'], .cons r1 (.cons r2 .nil), q1 =>
      obtain ⟨xs, e1, q1⟩ := ok_some q1
      obtain ⟨ys, e2, q1⟩ := ok_some q1
      obtain ⟨a, us, l, rfl, ra, sa⟩ := seq_x r1 e1
      obtain ⟨b, ws, l', rfl, rb, sb⟩ := seq_x r2 e2
      exact ⟨a, b, us, ws, l, l', rfl, sa _ R2.gh, sb _ R2.gh, k _ G2 H1 ρ2 _ (S1.trans S2) R2 (it_zipX (fun G' H' e e' => ⟨sa _ (e.trans e'), sb _ (e.trans e')⟩) (fun _ _ => trivial) ra rb) q1⟩
theorem di_zipX {t : TA} {wa : Wa} {elts : List Expr} {kk : Nat} {tpos : Pos} (hm : X.mg "zip" = none) (ha : DA X [e, e2] t wa) (hg : Gl X "zip" := by rfl) (hs : starEach [e, e2] X.env = (false, eval e X.env) :: starEach [e2] X.env := by rfl) (hpl : (backTo pos (starEach [e2] X.env)).any (·.1) = false := by rfl) :
    DI X (.Tuple elts kk tpos) (.Call (.Name "zip" p) [e, e2] [] pos) (iZipX X.K t) (wZipX wa) := ⟨pi_zipX hg hm ha.pa hs hpl, wi_zipX ha.wa⟩
end
end DL

set_option Elab.async false
set_option linter.all false
set_option maxRecDepth 100000
set_option maxHeartbeats 2000000
namespace DL
open PySem L2
section
variable {X : CxT} {K : KT} {e tg : Expr} {es : List Expr} {te : TE} {we : We} {pos : Pos}
/-! ### comprehensions with two fors -/
/-- the list in the making counts as kept -/
theorem Rep.withD {B : Addr → Prop} {G H : Hp} {σ : L2.St} {ρ : Sl} {D : Addr} {vals : List V} (R : Rep K B G H σ ρ) (hD : H D = some (.lst vals)) (nS : ∀ (i : Nat) (u : OD), ρ[i]? = some (SD.own u) → σ[i]? ≠ some (some (V.ref D))) : Rep K (fun a => B a ∨ a = D) G H σ ρ := by
  refine ⟨R.gh, R.tb, R.z.more fun _ z => .inl z, fun a ha => ?_, R.len, R.dat, fun j u hj => ?_, R.sep⟩
  · rcases ha with ha | rfl
    · exact R.bh a ha
    · exact ⟨_, hD, nt_lst⟩
  · obtain ⟨q, hq, h1, h2, h3, h4, h5⟩ := R.own j u hj
    exact ⟨q, hq, h1, h2, h3, fun z => z.elim h4 fun z => nS j u hj (by rw [h1, z]), h5⟩
theorem Rep.noD {B : Addr → Prop} {G H : Hp} {σ : L2.St} {ρ : Sl} {D : Addr} (R : Rep K (fun a => B a ∨ a = D) G H σ ρ) : ∀ (i : Nat) (u : OD), ρ[i]? = some (SD.own u) → σ[i]? ≠ some (some (V.ref D)) := fun j u hj hz => by
  obtain ⟨q, hq, h1, _, _, h4, _⟩ := R.own j u hj
  rw [hz] at h1; cases h1; exact h4 (.inr rfl)
/-- what stands between two turns: the list at D holds acc -/
structure Mid (K : KT) (B : Addr → Prop) (G H G1 : Hp) (D : Addr) (σ : L2.St) (C : List PD → Sl → Prop) (H' : Hp) : Prop where
  ex : ∃ acc G' ρ' vals, Stp B G H G' H' ∧ Ex G1 G' ∧ Rep K B G' H' σ ρ' ∧ H' D = some (.lst vals) ∧ G' D = none ∧ RpAll K G' vals acc ∧
      (∀ (i : Nat) (u : OD), ρ'[i]? = some (SD.own u) → σ[i]? ≠ some (some (V.ref D))) ∧ C acc ρ'
theorem loopD {vs : List Nat} {g : TG} {wg : Wg} {tt : TT} {wt : Wt} (hg : WGg K T0 g wg) (ho : GOnly vs g) (ht : WTt K tt wt) (he : WE K te we) {B : Addr → Prop} {G H G1 : Hp} {D : Addr} {σ : L2.St} {J : It} {ds : List PD} (it : ItOk K G1 J ds) (nB : ¬ B D)
    {C : List PD → Sl → Prop} {Nx : Hp → Prop} (fin : ∀ H', Mid K B G H G1 D (L2.wipe σ vs) C H' → Nx H') {Hs : Hp} (start : Mid K B G H G1 D (L2.wipe σ vs) (fun acc ρ => compL vs wg wt we ds acc C ρ) Hs) :
    ∃ W : Nat → Nat → Hp → Prop, (∃ m, W 0 m Hs) ∧ ∀ i m H, W i m H → (J.stop i H ∧ Nx H) ∨ (J.go i H ∧ ∃ N1 : Hp → Prop, (∀ H', N1 H' → ∃ m', m' < m ∧ W (i + 1) m' H') ∧ ∀ x H', J.yld i H x H' → g x (L2.wipe σ vs) H' fun σ2 H2 => L2.wipe σ2 vs = L2.wipe σ vs ∧ tt σ2 H2 fun b H3 =>
      if b = true then te σ2 H3 fun y H4 => ∃ acc, H4 D = some (.lst acc) ∧ acc.length < sizeLine ∧ N1 (upd H4 D (.lst (acc ++ [y]))) else N1 H3) := by
  refine ⟨fun i m H' => m = ds.length - i ∧ i ≤ ds.length ∧ Mid K B G H G1 D (L2.wipe σ vs) (fun acc ρ => compL vs wg wt we (ds.drop i) acc C ρ) H', ⟨_, rfl, Nat.zero_le _, start⟩, ?_⟩
  rintro i m H' ⟨rfl, hi, ⟨acc, G', ρ', vals, S', e', R', hDv, gD', ra, nS', q'⟩⟩
  obtain ⟨hstop, hgo⟩ := it B (L2.wipe σ vs) ρ' G' H' e' R'
  by_cases hlt : i < ds.length
  · have hd : ds[i]? = some ds[i] := List.getElem?_eq_getElem hlt
    obtain ⟨go, _⟩ := hgo i _ hd
    refine .inr ⟨go, fun H2 => Mid K B G H G1 D (L2.wipe σ vs) (fun acc ρ => compL vs wg wt we (ds.drop (i + 1)) acc C ρ) H2, fun H2 h2 => ⟨_, by omega, rfl, hlt, h2⟩, fun x H2 hy => ?_⟩
    rw [List.drop_eq_getElem_cons hlt] at q'
    have RB := R'.withD hDv nS'
    obtain ⟨_, hgoB⟩ := it (fun a => B a ∨ a = D) (L2.wipe σ vs) ρ' G' H' e' RB
    obtain ⟨G2, S2, R2, rx⟩ := (hgoB i _ hd).2 x H2 hy
    have q2 : g x (L2.wipe σ vs) H2 fun σ2 H3 => H3 = H2 ∧ ∃ ρ2, Rep K (fun a => B a ∨ a = D) G2 H2 σ2 ρ2 ∧ wt ρ2 fun b ρ2 => match b with
      | true => we ρ2 fun r ρ3 => warm r ρ3 ∧ frz [r.cool] ρ3 fun es ρ4 => match es with
        | [y] => acc.length < sizeLine ∧ compL vs wg wt we (ds.drop (i + 1)) (acc ++ [y]) C (wipeS ρ4 vs)
        | _ => False
      | false => compL vs wg wt we (ds.drop (i + 1)) acc C (wipeS ρ2 vs) :=
      hg (fun a => B a ∨ a = D) G2 H2 (L2.wipe σ vs) [] ρ' x _ _ _ R2 pn0 rx q' fun σ' ρ2 R3 _ q3 => ⟨rfl, ρ2, R3, q3⟩
    refine ho x (L2.wipe σ vs) H2 _ _ (fun σ2 H3 w2 q3 => ?_) q2
    have w3 : L2.wipe σ2 vs = L2.wipe σ vs := w2.trans wipe_wipe
    obtain ⟨rfl, ρ2, R3, q3⟩ := q3
    refine ⟨w3, ht (fun a => B a ∨ a = D) G2 H3 σ2 ρ2 _ _ R3 q3 fun b G4 H4 ρ4 S4 R4 q4 => ?_⟩
    have SB := S2.trans S4
    cases b with
    | false =>
      rw [if_neg (by decide)]
      have RW := R4.wipe vs
      rw [w3] at RW
      exact ⟨acc, G4, _, vals, S'.trans (SB.weak fun _ z => .inl z), e'.trans SB.g, RW.weak R'.z.b fun _ z => .inl z, SB.h _ _ (.inr rfl) hDv nt_lst, (SB.n _ _ (.inr rfl) hDv trivial).trans gD', ra.mono SB.g, RW.noD, q4⟩
    | true =>
      rw [if_pos rfl]
      refine he (fun a => B a ∨ a = D) G4 H4 σ2 ρ4 _ _ R4 q4 fun y G5 H5 ρ5 r S5 R5 rr ⟨c5, q5⟩ => ?_
      obtain ⟨G5', S5', R5', rr5', cc, ec⟩ := rr.cool R5 c5
      obtain ⟨⟨es', ρ6⟩, ee, q5⟩ := ok_some q5
      obtain ⟨G6, S6, R6, r6⟩ := frz_all R5' (.cons rr5' cc .nil) ee
      have SC := ((SB.trans S5).trans S5').trans S6
      have hD5 : H5 D = some (.lst vals) := SC.h _ _ (.inr rfl) hDv nt_lst
      have gD6 : G6 D = none := (SC.n _ _ (.inr rfl) hDv trivial).trans gD'
      match es', r6, q5 with
      | [yd], r6, ⟨hz, q5⟩ =>
        have RW := R6.wipe vs
        rw [w3] at RW
        obtain ⟨yv, eyv, ryv⟩ := r6.one
        cases eyv
        exact ⟨vals, hD5, by rw [ra.length]; exact hz, ⟨acc ++ [yd], G6, _, vals ++ [y], (S'.trans (SC.weak fun _ z => .inl z)).trans ⟨Ex.refl _, fun _ _ h => h, fun _ _ h => h, fun a o hb h _ => by rw [upd_ne (nb_ne nB hb)]; exact h, fun _ _ _ _ _ => rfl⟩, e'.trans SC.g, (RW.weak R'.z.b fun _ z => .inl z).aside (.inr ⟨_, hD5⟩) gD6 nB RW.noD, upd_same, gD6, (ra.mono SC.g).append (.cons ryv .nil), RW.noD, q5⟩⟩
  · have e : i = ds.length := by omega
    subst e
    rw [List.drop_length] at q'
    exact .inl ⟨hstop _ (Nat.le_refl _), fin _ ⟨acc, G', ρ', vals, S', e', R', hDv, gD', ra, nS', q'⟩⟩
theorem wipe_sub {σ : L2.St} {vs vs1 : List Nat} (h : ∀ i ∈ vs1, i ∈ vs) : L2.wipe (L2.wipe σ vs1) vs = L2.wipe σ vs := by
  apply List.ext_getElem?
  intro j
  by_cases hj : j ∈ vs
  · rw [wipe_in hj, wipe_in hj, L2.wipe_length]
  · rw [wipe_get hj, wipe_get hj, wipe_get fun z => hj (h j z)]
/-- the outer loop: behind its store and its test the inner one, whose items go on at the same list -/
def compO (vs vs1 : List Nat) (wg : Wg) (wt : Wt) (wI1 : Wi) (wg1 : Wg) (wt1 : Wt) (we : We) : List PD → List PD → (List PD → Sl → Prop) → Sl → Prop
  | [], acc, Q, ρ => Q acc ρ
  | d :: ds, acc, Q, ρ => wg d ρ fun ρ1 => wt ρ1 fun b ρ2 => match b with
    | true => wI1 ρ2 fun ds1 ρ3 => compL vs1 wg1 wt1 we ds1 acc (fun acc' ρ4 => compO vs vs1 wg wt wI1 wg1 wt1 we ds acc' Q (wipeS ρ4 vs)) (wipeS ρ3 vs1)
    | false => compO vs vs1 wg wt wI1 wg1 wt1 we ds acc Q (wipeS ρ2 vs)
def wLc2 (vs vs1 : List Nat) (wi : Wi) (wg : Wg) (wt : Wt) (wI1 : Wi) (wg1 : Wg) (wt1 : Wt) (we : We) : We := fun ρ Q => wi ρ fun ds ρ1 => noOwn ρ1 vs = true ∧ compO vs vs1 wg wt wI1 wg1 wt1 we ds [] (fun acc ρ2 => Q (.own (.lst acc)) (restore ρ1 vs ρ2)) (wipeS ρ1 vs)
theorem we_lc2 {vs vs1 : List Nat} {wi wi1 : TI} {wI wI1 : Wi} {g g1 : TG} {wg wg1 : Wg} {tt tt1 : TT} {wt wt1 : Wt} (hv : vs.Nodup) (hs : ∀ i ∈ vs1, i ∈ vs) (hi : WIi K wi wI) (hg : WGg K T0 g wg) (ho : GOnly vs g) (ht : WTt K tt wt)
    (hi1 : WIi K wi1 wI1) (hg1 : WGg K T0 g1 wg1) (ho1 : GOnly vs1 g1) (ht1 : WTt K tt1 wt1) (he : WE K te we) : WE K (tLc2 wi g tt wi1 g1 tt1 te vs vs1) (wLc2 vs vs1 wI wg wt wI1 wg1 wt1 we) := fun B G H σ ρ Q QV R q k =>
  hi B G H σ ρ _ _ R q fun J G1 H1 ρ1 ds S1 R1 it ⟨no, q1⟩ => by
    intro D hD
    have gD : G1 D = none := R1.gh.free R1.tb hD
    have nB : ¬ B D := fun z => (R1.bh D z).no hD
    have nS : ∀ (i : Nat) (u : OD), ρ1[i]? = some (SD.own u) → σ[i]? ≠ some (some (V.ref D)) := fun i u hi hz => by
      obtain ⟨q, hq, h1, h2, _⟩ := R1.own i u hi
      rw [hz] at h1; cases h1; rw [hD] at h2; cases h2
    have R1' : Rep K B G1 (upd H1 D (.lst [])) σ ρ1 := R1.aside (.inl hD) gD nB nS
    have R1d := (R1'.withD (D := D) upd_same nS).wipe vs
    let C : List PD → Sl → Prop := fun acc ρ2 => Q (.own (.lst acc)) (DL.restore ρ1 vs ρ2)
    refine ⟨fun i m H' => m = ds.length - i ∧ i ≤ ds.length ∧ Mid K B G H G1 D (L2.wipe σ vs) (fun acc ρ => compO vs vs1 wg wt wI1 wg1 wt1 we (ds.drop i) acc C ρ) H', ⟨_, rfl, Nat.zero_le _, ⟨[], G1, wipeS ρ1 vs, [], S1.trans ⟨Ex.refl _, fun _ _ h => h, fun _ _ h => h, fun a o hb h _ => by rw [upd_ne (nb_ne nB hb)]; exact h, fun _ _ _ _ _ => rfl⟩, Ex.refl _, R1'.wipe vs, upd_same, gD, .nil, R1d.noD, q1⟩⟩, ?_⟩
    rintro i m H' ⟨rfl, hi, ⟨acc, G', ρ', vals, S', e', R', hDv, gD', ra, nS', q'⟩⟩
    obtain ⟨hstop, hgo⟩ := it B (L2.wipe σ vs) ρ' G' H' e' R'
    by_cases hlt : i < ds.length
    · have hd : ds[i]? = some ds[i] := List.getElem?_eq_getElem hlt
      obtain ⟨go, _⟩ := hgo i _ hd
      refine .inr ⟨go, fun H2 => Mid K B G H G1 D (L2.wipe σ vs) (fun acc ρ => compO vs vs1 wg wt wI1 wg1 wt1 we (ds.drop (i + 1)) acc C ρ) H2, fun H2 h2 => ⟨_, by omega, rfl, hlt, h2⟩, fun x H2 hy => ?_⟩
      rw [List.drop_eq_getElem_cons hlt] at q'
      have RB := R'.withD hDv nS'
      obtain ⟨_, hgoB⟩ := it (fun a => B a ∨ a = D) (L2.wipe σ vs) ρ' G' H' e' RB
      obtain ⟨G2, S2, R2, rx⟩ := (hgoB i _ hd).2 x H2 hy
      have q2 : g x (L2.wipe σ vs) H2 fun σ2 H3 => H3 = H2 ∧ ∃ ρ2, Rep K (fun a => B a ∨ a = D) G2 H2 σ2 ρ2 ∧ wt ρ2 fun b ρ2 => match b with
        | true => wI1 ρ2 fun ds1 ρ3 => compL vs1 wg1 wt1 we ds1 acc (fun acc' ρ4 => compO vs vs1 wg wt wI1 wg1 wt1 we (ds.drop (i + 1)) acc' C (wipeS ρ4 vs)) (wipeS ρ3 vs1)
        | false => compO vs vs1 wg wt wI1 wg1 wt1 we (ds.drop (i + 1)) acc C (wipeS ρ2 vs) :=
        hg (fun a => B a ∨ a = D) G2 H2 (L2.wipe σ vs) [] ρ' x _ _ _ R2 pn0 rx q' fun σ' ρ2 R3 _ q3 => ⟨rfl, ρ2, R3, q3⟩
      refine ho x (L2.wipe σ vs) H2 _ _ (fun σ2 H3 w2 q3 => ?_) q2
      have w3 : L2.wipe σ2 vs = L2.wipe σ vs := w2.trans wipe_wipe
      obtain ⟨rfl, ρ2, R3, q3⟩ := q3
      refine ⟨w3, ht (fun a => B a ∨ a = D) G2 H3 σ2 ρ2 _ _ R3 q3 fun b G4 H4 ρ4 S4 R4 q4 => ?_⟩
      have SB := S2.trans S4
      cases b with
      | false =>
        rw [if_neg (by decide)]
        have RW := R4.wipe vs
        rw [w3] at RW
        exact ⟨acc, G4, _, vals, S'.trans (SB.weak fun _ z => .inl z), e'.trans SB.g, RW.weak R'.z.b fun _ z => .inl z, SB.h _ _ (.inr rfl) hDv nt_lst, (SB.n _ _ (.inr rfl) hDv trivial).trans gD', ra.mono SB.g, RW.noD, q4⟩
      | true =>
        rw [if_pos rfl]
        refine hi1 (fun a => B a ∨ a = D) G4 H4 σ2 ρ4 _ _ R4 q4 fun J1 G5 H5 ρ5 ds1 S5 R5 it1 q5 => ?_
        have SC := SB.trans S5
        have hD5 : H5 D = some (.lst vals) := SC.h _ _ (.inr rfl) hDv nt_lst
        have gD5 : G5 D = none := (SC.n _ _ (.inr rfl) hDv trivial).trans gD'
        have RW := R5.wipe vs1
        refine loopD hg1 ho1 ht1 he (σ := σ2) (G1 := G5) it1 nB (fun H6 ⟨acc6, G6, ρ6, vals6, S6, e6, R6, hD6, gD6, ra6, nS6, c6⟩ => ?_) ⟨acc, G5, _, vals, S'.trans (SC.weak fun _ z => .inl z), Ex.refl _, RW.weak R'.z.b fun _ z => .inl z, hD5, gD5, ra.mono SC.g, RW.noD, q5⟩
        have R7 := (R6.withD hD6 nS6).wipe vs
        rw [wipe_sub hs, w3] at R7
        exact ⟨acc6, G6, _, vals6, S6, (e'.trans SC.g).trans e6, R7.weak R6.z.b fun _ z => .inl z, hD6, gD6, ra6, R7.noD, c6⟩
    · have e : i = ds.length := by omega
      subst e
      rw [List.drop_length] at q'
      refine .inl ⟨hstop _ (Nat.le_refl _), ?_⟩
      have RF := Rep.restore R1 e' hv no (R'.withD hDv nS')
      exact k _ G' H' _ _ S' (RF.weak R'.z.b fun _ z => .inl z) (.own hDv gD' nB (.lst ra) RF.noD) q'
theorem de_lc2 {elt iter tg1 iter1 : Expr} {scope : Scope} {own : List (Str × Nat)} {vs1 : List Nat} {wi wi1 : TI} {wI wI1 : Wi} {g g1 : TG} {wg wg1 : Wg} {tt tt1 : TT} {wt wt1 : Wt} {ifs ifs1 : List Expr} (hc : X.calm = true) (hN : X.N.Nodup) (hv : (own.map (·.2)).Nodup) (hsub : ∀ i ∈ vs1, i ∈ own.map (·.2)) (hi : DI X tg iter wi wI) (okb : BlkOk X.N X.env.scope scope own)
    (hg : ∀ (s : Shared) (H : Hp) (C : Addr) (cl : List (Str × Addr)) (fp : List Addr), DG (X.blk s H scope (compEnvC scope cl C X.env) fp) T0 tg g wg) (ho : GOnly (own.map (·.2)) g)
    (ht : ∀ (s : Shared) (H : Hp) (C : Addr) (cl : List (Str × Addr)) (fp : List Addr), PTs (X.blk s H scope (compEnvC scope cl C X.env) fp) ifs tt) (hw : WTt X.K tt wt)
    (hi1 : ∀ (s : Shared) (H : Hp) (C : Addr) (cl : List (Str × Addr)) (fp : List Addr), DI (X.blk s H scope (compEnvC scope cl C X.env) fp) tg1 iter1 wi1 wI1)
    (hg1 : ∀ (s : Shared) (H : Hp) (C : Addr) (cl : List (Str × Addr)) (fp : List Addr), DG (X.blk s H scope (compEnvC scope cl C X.env) fp) T0 tg1 g1 wg1) (ho1 : GOnly vs1 g1)
    (ht1 : ∀ (s : Shared) (H : Hp) (C : Addr) (cl : List (Str × Addr)) (fp : List Addr), PTs (X.blk s H scope (compEnvC scope cl C X.env) fp) ifs1 tt1) (hw1 : WTt X.K tt1 wt1)
    (he : ∀ (s : Shared) (H : Hp) (C : Addr) (cl : List (Str × Addr)) (fp : List Addr), DE (X.blk s H scope (compEnvC scope cl C X.env) fp) elt te we) (hs : ∀ x, foldedSetIterable iter X.env x = pure x := by intro _; rfl) (hs1 : ∀ env x, foldedSetIterable iter1 env x = pure x := by intro _ _; rfl) :
    DE X (.ListComp elt [⟨tg, iter, ifs, 0⟩, ⟨tg1, iter1, ifs1, 0⟩] scope pos) (tLc2 wi g tt wi1 g1 tt1 te (own.map (·.2)) vs1) (wLc2 (own.map (·.2)) vs1 wI wg wt wI1 wg1 wt1 we) :=
  ⟨pe_lc2 hc hN hi.pi okb hsub (fun s H C cl fp => (hg s H C cl fp).pg) ht (fun s H C cl fp => (hi1 s H C cl fp).pi) (fun s H C cl fp => (hg1 s H C cl fp).pg) ht1 (fun s H C cl fp => (he s H C cl fp).pe) hs hs1,
    we_lc2 hv hsub hi.wi (hg X.s_0 X.H_0 0 [] []).wg ho hw (hi1 X.s_0 X.H_0 0 [] []).wi (hg1 X.s_0 X.H_0 0 [] []).wg ho1 hw1 (he X.s_0 X.H_0 0 [] []).we⟩
theorem di_seqK {KF : PySem.W.Frag} {tg e : Expr} {te : TE} {we : We} (he : DE X e te we) (hK : X.cx.K = KF := by rfl) : DI X tg e (iSeq KF te) (wSeqI we) := by subst hK; exact di_seq he
end
end DL

set_option Elab.async false
set_option linter.all false
set_option maxRecDepth 100000
set_option maxHeartbeats 2000000
namespace DL
open PySem L2
section
variable {X : CxT} {K : KT} {T : Nat → Bool} {e : Expr} {te tt' : TE} {t : TA} {we : We} {wa : Wa} {pos p p2 pos' tpos : Pos} {x : Str}
/-! ### x = [comprehension], which may change later -/
theorem ds_setLc {elt tg iter : Expr} {i : Nat} {y : Str} {py spos : Pos} {scope : Scope} {own : List (Str × Nat)} {ifs : List Expr} {wi : TI} {wI : Wi} {g : TG} {wg : Wg} {tt : TT} {wt : Wt} (hT : T i = false) (hc : X.calm = true) (hN : X.N.Nodup) (hy : X.N[i]? = some y) (hyl : X.env.scope.names.lookup y = some .local)
    (hsw : swapsWith (.ListComp elt [⟨tg, iter, ifs, 0⟩] scope pos) (some (.Name y py)) spos.line X.env = pure true) (hv : (own.map (·.2)).Nodup) (hi : DI X tg iter wi wI) (okb : BlkOk X.N X.env.scope scope own)
    (hg : ∀ (s : Shared) (H : Hp) (C : Addr) (cl : List (Str × Addr)) (fp : List Addr), DG (X.blk s H scope (compEnvC scope cl C X.env) fp) T0 tg g wg) (ho : GOnly (own.map (·.2)) g)
    (ht : ∀ (s : Shared) (H : Hp) (C : Addr) (cl : List (Str × Addr)) (fp : List Addr), PTs (X.blk s H scope (compEnvC scope cl C X.env) fp) ifs tt) (hw : WTt X.K tt wt)
    (he : ∀ (s : Shared) (H : Hp) (C : Addr) (cl : List (Str × Addr)) (fp : List Addr), DE (X.blk s H scope (compEnvC scope cl C X.env) fp) elt te we) (hs : ∀ x, foldedSetIterable iter X.env x = pure x := by intro _; rfl) :
    DS X T (.Assign [.Name y py] (.ListComp elt [⟨tg, iter, ifs, 0⟩] scope pos) spos) (tAsg (tLc wi g tt te (own.map (·.2))) (gName i)) (wSet i (wLc (own.map (·.2)) wI wg wt we)) :=
  ⟨ps_setLc hc hN hy hyl hsw hi.pi okb (fun s H C cl fp => (hg s H C cl fp).pg) ht (fun s H C cl fp => (he s H C cl fp).pe) hs, ws_set hT (we_lc hv hi.wi (hg X.s_0 X.H_0 0 [] []).wg ho hw (he X.s_0 X.H_0 0 [] []).we)⟩
theorem ds_setLcIf {elt tg iter cnd : Expr} {i : Nat} {y : Str} {py spos : Pos} {scope : Scope} {own : List (Str × Nat)} {wi : TI} {wI : Wi} {g : TG} {wg : Wg} {tt : TT} {wt : Wt} (hT : T i = false) (hc : X.calm = true) (hN : X.N.Nodup) (hy : X.N[i]? = some y) (hyl : X.env.scope.names.lookup y = some .local)
    (hsw : swapsWith (.ListComp elt [⟨tg, iter, [cnd], 0⟩] scope pos) (some (.Name y py)) spos.line X.env = pure true) (hv : (own.map (·.2)).Nodup) (hi : DI X tg iter wi wI) (okb : BlkOk X.N X.env.scope scope own)
    (hg : ∀ (s : Shared) (H : Hp) (C : Addr) (cl : List (Str × Addr)) (fp : List Addr), DG (X.blk s H scope (compEnvC scope cl C X.env) fp) T0 tg g wg) (ho : GOnly (own.map (·.2)) g)
    (ht : ∀ (s : Shared) (H : Hp) (C : Addr) (cl : List (Str × Addr)) (fp : List Addr), DT (X.blk s H scope (compEnvC scope cl C X.env) fp) cnd tt wt)
    (he : ∀ (s : Shared) (H : Hp) (C : Addr) (cl : List (Str × Addr)) (fp : List Addr), DE (X.blk s H scope (compEnvC scope cl C X.env) fp) elt te we) (hs : ∀ x, foldedSetIterable iter X.env x = pure x := by intro _; rfl) :
    DS X T (.Assign [.Name y py] (.ListComp elt [⟨tg, iter, [cnd], 0⟩] scope pos) spos) (tAsg (tLc wi g tt te (own.map (·.2))) (gName i)) (wSet i (wLc (own.map (·.2)) wI wg wt we)) :=
  ds_setLc hT hc hN hy hyl hsw hv hi okb hg ho (fun s H C cl fp => pts_one (ht s H C cl fp).pt) (ht X.s_0 X.H_0 0 [] []).wt he hs
/-! ### divmod of ints -/
def dDivmod : Dn := fun ds k => match ds with
  | [.int i, .int j] => CDivP i j ∧ k (.dat (.tup [.int (i / j), .int (i % j)]))
  | _ => False
theorem db_divmod : DB X (.builtin "divmod") (fun xs H Q => ∃ i j, xs = [.int i, .int j] ∧ CDivP i j ∧ ∀ p, H p = none → Q (.ref p) (upd H p (.tup [.int (i / j), .int (i % j)]))) dDivmod := by
  refine ⟨call_divmodW, fun B G H σ ρ xs ds Q QV R hv q k => ?_⟩
  match ds, hv, q with
  | [.int i, .int j], .cons h (.cons h' .nil), q => exact ⟨i, j, by rw [h.int, h'.int], q.1, fun n hn => k.tup R hn (.cons (.int _) (.cons (.int _) .nil)) q.2⟩
/-! ### x op= e, x a datum -/
def wAug (i : Nat) (D : D2) (we : We) : Ws := fun O ρ => match ρ[i]? with
  | some (.dat a) => we ρ fun r ρ1 => look r ρ1 fun y => D a y fun res => ok (into res i ρ1) O.nx
  | _ => False
theorem ws_aug {i : Nat} {D : D2} {ti : R2} (hi : T i = false) (hop : Ok2 K ti D) (h : WE K te we) : WSs K T (tAug i te ti) (wAug i D we) := fun B G H σ S0 ρ O Dn R P q kn kr kb kc => by
  unfold wAug at q
  split at q
  · rename_i a ha
    obtain ⟨v, h1, h2⟩ := R.dat i a ha
    refine ⟨v, h1, h B G H σ ρ _ _ R q fun y G1 H1 ρ1 r S1 R1 rr q1 => ?_⟩
    obtain ⟨yd, ey, q1⟩ := ok_some q1
    refine hop B G1 H1 σ ρ1 v y a yd (fun r => ok (into r i ρ1) O.nx) _ R1 (.inl (h2.mono S1.g)) (rr.vw R1 ey) q1 fun w G3 H3 res S3 R3 rr3 q3 => ?_
    obtain ⟨ρ4, e4, q4⟩ := ok_some q3
    exact kn G3 H3 _ ρ4 (S1.trans S3) (rep_into R3 rr3 e4) (P.set hi) q4
  · exact q.elim
theorem ds_aug {i : Nat} {op : Operator} {ti : R2} {D : D2} (hT : T i = false) (hN : X.N.Nodup) (hi : X.N[i]? = some x) (hx : Loc X.env.scope x) (ho : OpR X (inplaceOp op) ti) (hk : Ok2 X.K ti D) (h : DE X e te we) (hf : X.fn x = true ∨ X.env.scope.names.lookup x = some .local := by first | exact .inl rfl | exact .inr rfl | assumption) :
    DS X T (.AugAssign (.Name x pos') op e pos) (tAug i te ti) (wAug i D we) := ⟨ps_aug hN hi hx h.pe ho hf, ws_aug hT hk h.we⟩
theorem iop_mulX : OpR X (inplaceOp .Mult) (rI CMulX fun i j => .int (i * j)) := opI fun _ _ _ _ _ _ _ hc q => PyProof.Rows.imul_int q hc.ok
/-! ### with the written part by its own name -/
variable {KF : PySem.W.Frag} {a b : Expr} {ta tb : TE} {wA wB' : We}
theorem db_lenK (hK : X.cx.K = KF := by rfl) : DB X (.builtin "len") (rLen3 KF) dLen := by subst hK; exact db_len
theorem db_sumK (hc : X.calm = true) (hK : X.cx.K = KF := by rfl) : DB X (.builtin "sum") (rSum KF) dSum := by subst hK; exact db_sum hc
theorem db_allK (hc : X.calm = true) (hK : X.cx.K = KF := by rfl) : DB X (.builtin "all") (rAll KF) dAll := by subst hK; exact db_all hc
theorem db_anyK (hc : X.calm = true) (hK : X.cx.K = KF := by rfl) : DB X (.builtin "any") (rAny KF) dAny := by subst hK; exact db_any hc
theorem db_listK (hK : X.cx.K = KF := by rfl) : DB X (.type "list") (fun xs H Q => ∃ p ys, xs = [.ref p] ∧ (SqL KF H p ys ∨ SqT KF H p ys) ∧ ∀ l, H l = none → Q (.ref l) (upd H l (.lst ys))) dList := by subst hK; exact db_list
theorem db_tupleK (hK : X.cx.K = KF := by rfl) : DB X (.type "tuple") (fun xs H Q => ∃ p ys, xs = [.ref p] ∧ ((SqL KF H p ys ∧ ∀ l, H l = none → Q (.ref l) (upd H l (.tup ys))) ∨ (SqT KF H p ys ∧ Q (.ref p) H))) dTuple := by subst hK; exact db_tuple
theorem db_maxLK (hc : X.calm = true) (hK : X.cx.K = KF := by rfl) : DB X (.builtin "max") (rMax KF) dMaxL := by subst hK; exact db_maxL hc
theorem db_minLK (hc : X.calm = true) (hK : X.cx.K = KF := by rfl) : DB X (.builtin "min") (rMin KF) dMinL := by subst hK; exact db_minL hc
theorem db_reprXK (hg : X.A.guards = some []) (hu : X.cx.A.units + 66 < cLine) (hK : X.cx.K = KF := by rfl) : DB X (.builtin "repr") (fun xs H Q => rReprD1 xs H Q ∨ rRepr KF xs H Q) dReprX := by subst hK; exact db_reprX hg hu
theorem db_sortedK (hu : X.cx.A.units + 66 < cLine) (hK : X.cx.K = KF := by rfl) : DB X (.builtin "sorted") (rSortD KF) dSorted := by subst hK; exact db_sorted hu
theorem de_slK {lo hi : Option Expr} {tl th : TO} {wl wh : Wo} (h : DE X e te we) (h1 : DO X lo tl wl) (h2 : DO X hi th wh) (hK : X.cx.K = KF := by rfl) : DE X (.Subscript e (.Slice lo hi none p2) pos) (tSl (rSl2 KF) te tl th) (wSl we wl wh) := by subst hK; exact de_sl h h1 h2
theorem de_tmK (ha : DE X a ta wA) (hb : DE X b tb wB') (hK : X.cx.K = KF := by rfl) : DE X (.BinOp a .Mult b pos) (tOp (rTm KF) ta tb) (wBin dTm wA wB') := by subst hK; exact de_tm ha hb
/-! ### sum of a tuple of ints -/
theorem sum_tupG {prog : Program} {w : World} {A : Around} {E : Value → Shared → Prop} {s : Shared} {l : Addr} {xs : Array (Int × Tok)} {Q : Value → Shared → Prop} (hh : A.handled = none) (hl : s.heap.IsTuple l (intItems xs))
    (h : ∀ h' tk t', (∀ b o, s.heap.get? b = some o → h'.get? b = some o) → Q (.int (preSum (numAt xs) xs.size) t') { s with heap := h', toks := tk }) :
    wpAny (model prog w) A (PySem.call (.builtin "sum") [.ref l]) Q E s := by
  have hlt : l < s.heap.objs.size := by obtain ⟨_, e, _⟩ := hl; exact Heap.lt_size e
  refine call_sum_walkG (wpAny_pyIter_tuple hl ?_)
  refine ⟨_, _, _, _, _, _, numAt xs, rfl, Walks.tuple (A := A.in1) hh _ l (Nat.ne_of_lt hlt) (intItems xs), ⟨⟨_, Heap.get?_push_size _ rfl, rfl, rfl⟩, hl.push _⟩, (fun b hb => ?_), (fun _ _ => intItems_at), fun h' tk t' hk => ?_⟩
  · show b < (s.heap.push _).objs.size
    rw [Heap.size_push]
    rcases List.mem_cons.mp hb with rfl | hb
    · exact Nat.lt_succ_self _
    · rcases List.mem_cons.mp hb with rfl | hb
      · exact Nat.lt_succ_of_lt hlt
      · cases hb
  · have := h h' tk t' (fun b o e => hk b o (fun hb => absurd (Heap.lt_size e) ((List.mem_singleton.mp hb) ▸ Nat.lt_irrefl _)) (Heap.get?_push_of_some _ e))
    simpa [intItems] using this
theorem sum_rawT {prog : Program} {w : World} {A : Around} {E : Value → Shared → Prop} {s : Shared} {l : Addr} {its : List Value} {ns : List Int} {Q : Value → Shared → Prop} (hh : A.handled = none) (hl : s.heap.IsTuple l its.toArray) (hi : PyProof.Rows.IntsAre its ns)
    (h : ∀ h' tk t', (∀ b o, s.heap.get? b = some o → h'.get? b = some o) → Q (.int ns.sum t') { s with heap := h', toks := tk }) : wpAny (model prog w) A (PySem.call (.builtin "sum") [.ref l]) Q E s := by
  obtain ⟨xs, e⟩ := hi.allInts.items
  have hn : numsOf (intItems xs).toList = ns := by rw [← e]; exact hi.numsOf
  rw [nums_intItems] at hn
  rw [e] at hl
  refine sum_tupG hh hl fun h' tk t' hk => ?_
  have := h h' tk t' hk
  rw [preSum_eq, List.take_of_length_le (by simp), hn]; exact this
def rSumT (K : PySem.W.Frag) : List V → Hp → VK → Prop := fun vs H Q => ∃ (a : Addr) (ns : List Int), vs = [V.ref a] ∧ SqT K H a (ns.map V.int) ∧ Q (.int ns.sum) H
theorem cr_sumT (hc : X.calm = true) : CallR X (.builtin "sum") (rSumT X.K) := by
  intro pins s σ H vs us Q I r h
  obtain ⟨a, ns, rfl, hs, q⟩ := h
  obtain ⟨its, rv, hl, _⟩ := I.tuple hs
  rw [Vals.ref1 r]
  exact sum_rawT (I.ok.hd hc) hl rv.ints fun h' tk t' hk => ⟨.int _, H, I.kept hk, ⟨_, rfl⟩, q⟩
def rSumX (K : PySem.W.Frag) : List V → Hp → VK → Prop := fun xs H Q => rSum K xs H Q ∨ rSumT K xs H Q
def dSumX : Dn := fun ds k => match ds with
  | [.lst xs] => ok (intsOf xs) fun ns => k (.dat (.int ns.sum))
  | [.scr ns] => k (.dat (.int ns.sum))
  | [.tup xs] => ok (intsOf xs) fun ns => k (.dat (.int ns.sum))
  | _ => False
theorem db_sumX (hc : X.calm = true) : DB X (.builtin "sum") (rSumX X.K) dSumX := by
  refine ⟨CallR.orr (cr_sum hc) (cr_sumT hc), fun B G H σ ρ xs ds Q QV R hv q k => ?_⟩
  match ds, hv, q with
  | [.lst ys], hv, q => exact .inl ((db_sum hc).ok B G H σ ρ xs _ Q QV R hv q k)
  | [.scr ys], hv, q => exact .inl ((db_sum hc).ok B G H σ ρ xs _ Q QV R hv q k)
  | [.tup ys], .cons h .nil, q =>
    obtain ⟨ns, e, q⟩ := ok_some q
    obtain ⟨a, us, rfl, ha, ra⟩ := h.tup R.gh
    rw [intsOf_eq e] at ra
    rw [ra.ints] at ha
    exact .inr ⟨a, ns, rfl, ha, k.dat R (.int _) q⟩
theorem db_sumXK (hc : X.calm = true) (hK : X.cx.K = KF := by rfl) : DB X (.builtin "sum") (rSumX KF) dSumX := by subst hK; exact db_sumX hc
/-! ### < of ints, and of tuples of ints -/
def dLtX : D2 := fun x y k => match x, y with
  | .int i, .int j => k (.dat (.bl (decide (i < j))))
  | .tup xs, .tup ys => ok (intsOf xs) fun ns => ok (intsOf ys) fun ms => k (.dat (.bl (HT.lexLt ns ms)))
  | _, _ => False
theorem ok2_ltX {K : KT} : Ok2 K (rOr (rI0 fun i j => .bl (decide (i < j))) (rLtT K)) dLtX := by
  intro B G H σ ρ x y dx dy Q QV R vx vy q k
  cases dx with
  | int i =>
    cases dy with
    | int j => exact .inl ⟨i, j, vx.int, vy.int, k.dat R (.bl _) q⟩
    | _ => exact q.elim
  | tup xs =>
    cases dy with
    | tup ys =>
      obtain ⟨ns, e1, q⟩ := ok_some q
      obtain ⟨ms, e2, q⟩ := ok_some q
      obtain ⟨p, us, rfl, hp, rx⟩ := vx.tup R.gh
      obtain ⟨p', ws, rfl, hp', ry⟩ := vy.tup R.gh
      rw [intsOf_eq e1] at rx
      rw [intsOf_eq e2] at ry
      rw [rx.ints] at hp
      rw [ry.ints] at hp'
      exact .inr ⟨p, p', ns, ms, rfl, rfl, hp, hp', k.dat R (.bl _) q⟩
    | _ => exact q.elim
  | _ => exact q.elim
theorem dc_ltX (hu : X.cx.A.units + 64 < cLine) : DC X .Lt (rOr (rI0 fun i j => .bl (decide (i < j))) (rLtT X.K)) dLtX := ⟨or_ok op_lt (op_ltT (by omega)), ok2_ltX⟩
/-! ### the truth of a datum -/
def dTr : PD → (Bool → Prop) → Prop
  | .non, k => k false
  | .bl b, k => k b
  | .int i, k => k (i != 0)
  | .str y, k => y.length ≤ sizeLine ∧ k ((y.length : Int) != 0)
  | .lst xs, k => k (!xs.isEmpty)
  | .scr ns, k => k (!ns.isEmpty)
  | .tup xs, k => k (!xs.isEmpty)
  | .dct ks, k => k (!ks.isEmpty)
  | _, _ => False
def wTr (w : We) : Wt := fun ρ Q => w ρ fun r ρ1 => look r ρ1 fun d => dTr d fun b => Q b ρ1
theorem empV {K : PySem.W.Frag} {G : Hp} {vs : List V} {ds : List PD} (h : RpAll K G vs ds) : vs.isEmpty = ds.isEmpty := by cases h <;> rfl
theorem empKv {K : PySem.W.Frag} {G : Hp} {vs : List (Key × V)} {ds : List (Key × PD)} (h : RpKv K G vs ds) : vs.isEmpty = ds.isEmpty := by cases h <;> rfl
theorem wt_tr {K : KT} {te : TE} {w : We} (h : WE K te w) : WTt K (fun σ H Q => te σ H fun x H' => ∃ k, TruV K.F x H' k ∧ Q k H') (wTr w) := fun B G H σ ρ Q QV R q k =>
  h B G H σ ρ _ _ R q fun v G1 H1 ρ1 r S1 R1 rr q1 => by
    obtain ⟨d, ed, q1⟩ := ok_some q1
    have vw := rr.vw R1 ed
    cases d with
    | non => rw [vw.non]; exact ⟨false, rfl, k _ G1 H1 ρ1 S1 R1 q1⟩
    | bl b => rw [vw.bl]; exact ⟨b, rfl, k _ G1 H1 ρ1 S1 R1 q1⟩
    | int i => rw [vw.int]; exact ⟨_, rfl, k _ G1 H1 ρ1 S1 R1 q1⟩
    | str y => rw [vw.str]; exact ⟨_, ⟨q1.1, rfl⟩, k _ G1 H1 ρ1 S1 R1 q1.2⟩
    | lst xs =>
      obtain ⟨a, us, rfl, ha, ra⟩ := vw.lst R1.gh
      exact ⟨_, .inl ⟨us, SqL.of ha, by rw [empV ra]⟩, k _ G1 H1 ρ1 S1 R1 q1⟩
    | scr ns =>
      obtain ⟨a, rfl, ha⟩ := vw.scr R1.gh
      exact ⟨_, .inl ⟨_, ha, by cases ns <;> rfl⟩, k _ G1 H1 ρ1 S1 R1 q1⟩
    | tup xs =>
      obtain ⟨a, us, rfl, ha, ra⟩ := vw.tup R1.gh
      exact ⟨_, .inr (.inl ⟨us, ha, by rw [empV ra]⟩), k _ G1 H1 ρ1 S1 R1 q1⟩
    | dct ks =>
      rcases vw with vw | ⟨p, ho, o, rfl, h1, h2, h3⟩
      · cases vw with
        | dct s r => exact ⟨_, .inr (.inr ⟨_, R1.gh _ _ s nt_dK, by rw [empKv r]⟩), k _ G1 H1 ρ1 S1 R1 q1⟩
      · cases h2 with
        | lst r => cases h3
        | dK r => cases h3; exact ⟨_, .inr (.inr ⟨_, h1, by rw [empKv r]⟩), k _ G1 H1 ρ1 S1 R1 q1⟩
    | _ => exact q1.elim
theorem dt_tr {e : Expr} {t : TE} {w : We} (h : DE X e t w) (he : ∀ whole, isTrue e X.env whole = (do let v ← whole; standAt e.pos; holding [v] (truthy v)) := by intro _; rfl) : DT X e (fun σ H Q => t σ H fun x H' => ∃ k, TruV X.K x H' k ∧ Q k H') (wTr w) := ⟨pt_truth h.pe he, wt_tr h.we⟩
end
end DL

set_option Elab.async false
set_option linter.all false
set_option maxRecDepth 100000
set_option maxHeartbeats 2000000
namespace DL
open PySem L2 PyProof.Rows
/-! ### a tuple over and over, many times -/
def rTmB (K : PySem.W.Frag) : R2 := fun x y H Q => ∃ (a : Addr) (m : Int) (us : List V), x = .ref a ∧ y = .int m ∧ SqT K H a us ∧ us ≠ [] ∧ 2 ≤ m ∧ us.length * m.toNat ≤ 1000000 ∧ ∀ b, H b = none → Q (.ref b) (upd H b (.tup (List.replicate m.toNat us).flatten))
theorem op_tmB {X : Cx} : OpR X (binaryOp .Mult) (rTmB X.K) := by
  intro pins sh σ H x y v w Q I rx ry ⟨a, m, us, ex, ey, sq, full, m2, small, q⟩
  subst ex ey
  cases rx
  obtain ⟨tk, rfl⟩ := ry
  obtain ⟨ws, rel, ⟨⟨kls, dct, body, slots⟩, at_, ec, hint, eb⟩, _⟩ := I.tuple sq
  simp only at ec eb
  subst ec eb
  have len := rel.length
  have two : m = ((m.toNat : Nat) : Int) := (Int.toNat_of_nonneg (by omega)).symm
  generalize hM : m.toNat = M at small q two
  subst two
  have line : 1000000 < sizeLine := by rw [sizeLine_eq]; decide
  have flat : (List.replicate M ws).flatten.length = us.length * M := by rw [lm_len_rep_flat, ← len, Nat.mul_comm]
  have some_ : ws.toArray.isEmpty = false := by
    cases ws with
    | nil => exact absurd (List.eq_nil_of_length_eq_zero len) full
    | cons => rfl
  have prod : ((ws.toArray.size : Nat) : Int) * ((M : Nat) : Int) = ((us.length * M : Nat) : Int) := by rw [List.size_toArray, ← len]; simp
  have k1 : (decide (((M : Nat) : Int) < -(2 ^ 63)) || decide (((M : Nat) : Int) ≥ 2 ^ 63)) = false := by
    have : 1 ≤ us.length := by cases us with
      | nil => exact absurd rfl full
      | cons => simp
    have : M ≤ us.length * M := Nat.le_mul_of_pos_left M this
    rw [decide_eq_false (by omega), decide_eq_false (by omega), Bool.or_self]
  have k2 : (ws.toArray.isEmpty || ((M : Nat) : Int) == 1) = false := by rw [some_, Bool.false_or, beq_eq_false_iff_ne]; omega
  have k3 : (decide (((M : Nat) : Int) ≤ 0) || ws.toArray.isEmpty) = false := by rw [some_, Bool.or_false]; exact decide_eq_false (by omega)
  have k4 : Builtin.Tuple.tupleTooMany (((ws.toArray.size : Nat) : Int) * ((M : Nat) : Int)) = false := by
    rw [prod]
    show decide _ = false
    refine decide_eq_false ?_
    omega
  have fold := size_rep ws M
  have step := tuple_mulW a ws.toArray hint dct slots ((M : Nat) : Int) tk k1 k2 k3 (by omega) k4 (by rw [Int.toNat_natCast, fold, List.size_toArray, flat]; omega)
  refine wpAny_binaryOp_repeat_ref (by decide) ⟨_, at_, rfl⟩ (fun z => typeIs_int z _ tk) noFill_tuple_mul F.fills_int_mul F.slot_int_rmul repeat_tuple F.slot_int_index.lookup (call_meets F.slot_int_rmul (typeIs_int sh _ tk) F.entry_int_rmul (F.args_int_rmul_2 _ _) (int_rmul_tuple _ tk a ws.toArray hint dct slots) ⟨at_, rfl, ⟨_, at_, rfl⟩, call_meets F.slot_tuple_mul ⟨_, at_, rfl⟩ F.entry_tuple_mul (F.args_tuple_mul_2 _ _) step ⟨at_, ?_⟩⟩)
  rw [Int.toNat_natCast, fold]
  refine ⟨.ref sh.heap.objs.size, _, I.laid (t' := sh.toks) (o := .tup (List.replicate M us).flatten) (fun _ _ z => Heap.get?_push_of_some _ z) (Nat.le_refl _) ⟨?_, _, rel.rep M, IsTup.new _ _⟩, rfl, q _ (I.hok.fresh (Nat.le_refl _))⟩
  rw [lm_len_rep_flat, Nat.mul_comm]
  omega
def dTmB : D2 := fun x y k => match x, y with
  | .tup xs, .int n => xs ≠ [] ∧ 2 ≤ n ∧ xs.length * n.toNat ≤ 1000000 ∧ k (.dat (.tup (List.replicate n.toNat xs).flatten))
  | _, _ => False
theorem ok2_tmB {K : KT} : Ok2 K (rTmB K.F) dTmB := by
  intro B G H σ ρ x y dx dy Q QV R vx vy q k
  match dx, dy, vx, vy, q with
  | .tup ds, .int n, vx, vy, ⟨ne, n0, hz, q⟩ =>
    obtain ⟨a, us, rfl, ha, ra⟩ := vx.tup R.gh
    have hl := (RpAll.each ra).1
    exact ⟨a, n, us, rfl, vy.int, ha, fun e => ne (by rw [e] at hl; exact List.eq_nil_of_length_eq_zero hl.symm), n0, by rw [hl]; exact hz, fun p hp => k.tup R hp (ra.times n.toNat) q⟩
section
variable {X : CxT}
theorem de_tmB {a b : Expr} {pos : Pos} {ta tb : TE} {wa wb : We} (ha : DE X a ta wa) (hb : DE X b tb wb) : DE X (.BinOp a .Mult b pos) (tOp (rTmB X.cx.K) ta tb) (wBin dTmB wa wb) := ⟨pe_op op_tmB ha.pe hb.pe, we_bin ok2_tmB ha.we hb.we⟩
end
end DL

set_option Elab.async false
set_option linter.all false
set_option maxRecDepth 100000
set_option maxHeartbeats 2000000
namespace DL
open PySem PyProof.Rows L2
/-! ### len(set(xs)), xs a list of ints -/
def dd (ns : List Int) : List Int := PyProof.Rows.firstMet (fun i => ns.getD i 0) ns.length
theorem dd_le (ns : List Int) : (dd ns).length ≤ ns.length := PyProof.Rows.firstMet_length_le _ _
section
variable {X : CxT} {K : KT} {T : Nat → Bool}
def tLenSetG (KF : PySem.W.Frag) (ta : TE) : TE := fun σ H Q =>
  ta σ H fun x H1 => ∃ (a : Addr) (ns : List Int), x = .ref a ∧ SqL KF H1 a (ns.map V.int) ∧ ns.length ≤ 4000 ∧ Q (.int ((dd ns).length : Nat)) H1
theorem pe_lenSetG {Z : Cx} {e : Expr} {te : TE} {p1 p2 q1 q2 : Pos} (gl : Gl Z "len") (ml : Z.mg "len" = none) (gs : Gl Z "set") (ms : Z.mg "set" = none) (he : PE Z e te) (hc : Z.calm = true := by rfl)
    (st : starEach [e] Z.env = (false, eval e Z.env) :: starEach [] Z.env := by rfl) :
    PE Z (.Call (.Name "len" p1) [.Call (.Name "set" p2) [e] [] q2] [] q1) (tLenSetG Z.K te) := by
  constructor
  intro pins s σ H Q I h
  refine Call_ (ld_blt I gl ml boot_len ?_)
  refine PyProof.Rows.callWith_builtin1 (PyProof.Rows.args_cons ?_ rfl) rfl rfl
  refine Call_ (ld_blt I gs ms boot_set ?_)
  have inner := he.run pins s σ H _ I h
  refine PyProof.Rows.callWith_type1 (PyProof.Rows.args_cons (thn inner fun u s1 ⟨x, H1, I1, rx, rest⟩ => PyProof.Rows.args_nil ?_) st) st rfl
  obtain ⟨a, ns, ex, hl, n4, rest⟩ := rest
  subst ex
  cases rx
  obtain ⟨us, vu, il, _⟩ := I1.list hl
  have sz : us.toArray.size = ns.length := by
    rw [List.size_toArray, ← vu.length, List.length_map]
  have ia : ∀ {ns : List Int} {us : List Value}, Vals (ns.map V.int) us → PyProof.Rows.IntsAre us ns := fun {ns} => by
    induction ns with
    | nil => intro us h; cases h; exact .nil
    | cons n ns ih =>
      intro us h
      cases h with
      | cons r t =>
        obtain ⟨k, rfl⟩ := r
        exact .cons n k (ih t)
  refine call_set_list (I1.ok.hd hc) il.isList (by simpa using ia vu) (by rw [sz]; unfold scanBound; omega) fun h2 tk hS hk => ?_
  refine PyProof.Rows.args_nil ?_
  rw [sz] at hS
  obtain ⟨ob, es, ep, t, g1, g2, g3, _, _, _, g4, g5⟩ := hS
  have I2 : Inv Z pins σ H1 { s1 with heap := h2, toks := tk } := I1.kept fun b o e => hk b o (Heap.lt_size e) e
  have dl := dd_le ns
  refine call_len_set g1 g2 g3 g4 (by rw [g5]; have := dl; unfold dd at this; omega) ?_
  exact ⟨.int ((dd ns).length : Nat), H1, I2.tok _, ⟨_, by rw [g5]; rfl⟩, rest⟩
def wLenSet (wk : We) : We := fun ρ Q => wk ρ fun r ρ1 => look r ρ1 fun d => match d with
  | .lst xs => ok (intsOf xs) fun ns => ns.length ≤ 4000 ∧ Q (.dat (.int ((dd ns).length : Nat))) ρ1
  | _ => False
theorem we_lenSet {ty : TE} {wk : We} (h : WE K ty wk) : WE K (tLenSetG K.F ty) (wLenSet wk) := fun B G H σ ρ Q QV R q k =>
  h B G H σ ρ _ _ R q fun y G1 H1 ρ1 r S1 R1 rr q1 => by
    obtain ⟨d, ed, q1⟩ := ok_some q1
    match d, ed, q1 with
    | .lst xs, ed, q1 =>
      obtain ⟨ns, en, n4, q1⟩ := ok_some q1
      obtain ⟨a, us, rfl, ha, ra⟩ := (rr.vw R1 ed).lst R1.gh
      rw [intsOf_eq en] at ra
      rw [ra.ints] at ha
      exact ⟨a, ns, rfl, SqL.of ha, n4, k _ G1 H1 ρ1 _ S1 R1 (.dat (.int _)) q1⟩
theorem de_lenSet {e : Expr} {te : TE} {we : We} {p1 p2 q1 q2 : Pos} (ml : X.mg "len" = none) (ms : X.mg "set" = none) (he : DE X e te we) (gl : Gl X "len" := by rfl) (gs : Gl X "set" := by rfl) (hc : X.calm = true := by rfl)
    (st : starEach [e] X.env = (false, eval e X.env) :: starEach [] X.env := by rfl) :
    DE X (.Call (.Name "len" p1) [.Call (.Name "set" p2) [e] [] q2] [] q1) (tLenSetG X.cx.K te) (wLenSet we) := ⟨pe_lenSetG gl ml gs ms he.pe hc st, we_lenSet (K := X.K) he.we⟩
theorem dd_fold (ns : List Int) : dd ns = ns.foldl step_dedup [] := by
  unfold dd firstMet
  congr 1
  refine List.ext_getElem? fun i => ?_
  rw [List.getElem?_map]
  by_cases h : i < ns.length
  · rw [List.getElem?_range h, List.getElem?_eq_getElem h]
    show some (ns.getD i 0) = _
    rw [List.getD_eq_getElem?_getD, List.getElem?_eq_getElem h]; rfl
  · rw [List.getElem?_eq_none (by rw [List.length_range]; omega), List.getElem?_eq_none (by omega)]; rfl
theorem fold_len : ∀ (ns acc : List Int), (ns.foldl step_dedup acc).length ≤ acc.length + ns.length ∧ ((ns.foldl step_dedup acc).length = acc.length + ns.length ↔ ns.Nodup ∧ ∀ x ∈ ns, x ∉ acc)
  | [], acc => ⟨Nat.le_refl _, fun _ => ⟨List.nodup_nil, fun _ h => nomatch h⟩, fun _ => rfl⟩
  | x :: ns, acc => by
    rw [List.foldl_cons, List.length_cons]
    by_cases h : x ∈ acc
    · have e : step_dedup acc x = acc := by
        unfold step_dedup
        rw [if_pos (List.any_eq_true.mpr ⟨x, h, by simp⟩)]
      have ih := (fold_len ns acc).1
      rw [e]
      refine ⟨by omega, fun z => by omega, fun z => absurd h (z.2 x List.mem_cons_self)⟩
    · have e : step_dedup acc x = acc ++ [x] := by
        unfold step_dedup
        rw [if_neg]
        intro z
        obtain ⟨y, hy, ey⟩ := List.any_eq_true.mp z
        rw [eq_of_beq ey] at hy
        exact h hy
      obtain ⟨i1, i2⟩ := fold_len ns (acc ++ [x])
      rw [List.length_append, List.length_singleton] at i1 i2
      rw [e]
      refine ⟨by omega, fun z => ?_, fun z => ?_⟩
      · obtain ⟨j1, j2⟩ := i2.mp (by omega)
        refine ⟨List.nodup_cons.mpr ⟨fun q => j2 x q (List.mem_append_right _ (List.mem_singleton.mpr rfl)), j1⟩, fun y hy => ?_⟩
        rcases List.mem_cons.mp hy with rfl | hy
        · exact h
        · exact fun q => j2 y hy (List.mem_append_left _ q)
      · obtain ⟨j1, j2⟩ := z
        obtain ⟨j3, j4⟩ := List.nodup_cons.mp j1
        have := i2.mpr ⟨j4, fun y hy q => by
          rcases List.mem_append.mp q with q | q
          · exact j2 y (List.mem_cons_of_mem _ hy) q
          · rw [List.mem_singleton.mp q] at hy; exact j3 hy⟩
        omega
theorem dd_len (ns : List Int) : (dd ns).length = ns.length ↔ ns.Nodup := by
  rw [dd_fold]
  have := (fold_len ns []).2
  rw [List.length_nil, Nat.zero_add] at this
  rw [this]
  exact ⟨fun h => h.1, fun h => ⟨h, fun _ _ q => nomatch q⟩⟩
end
end DL

set_option Elab.async false
set_option linter.all false
set_option maxRecDepth 100000
set_option maxHeartbeats 2000000
namespace DL
open PySem PyProof.Rows L2
/-! ### d.update(e), both with ints and texts as keys -/
def rDUpd : V → List V → Hp → VK → Prop := fun x vs H Q => ∃ (a b : Addr) (kvs more : List (Key × V)), x = .ref a ∧ vs = [.ref b] ∧ a ≠ b ∧ H a = some (.dK kvs) ∧ H b = some (.dK more) ∧ kvs.length + more.length ≤ sizeLine ∧ Q .non (upd H a (.dK (mergeK kvs more)))
theorem mtd_update {X : Cx} : MtR X "dict.update" rDUpd := by
  intro pins s σ H x vs v us Q I rx rv h
  obtain ⟨a, b, kvs, more, ex, ev, hab, e, e2, hz, q⟩ := h
  subst ex
  subst ev
  obtain rfl : v = Value.ref a := rx
  cases rv with
  | cons r1 rs =>
    cases rs
    cases r1
    obtain ⟨z, hd, vs, rel, dd⟩ := dk_of I.hok e
    obtain ⟨z2, hd2, vs2, rel2, dd2⟩ := dk_of I.hok e2
    refine call_meetsIn PySem.F.slot_dict_update dd.typeIs PySem.F.entry_dict_update (PySem.F.args_dict_update_2 _ _) (meets_dict_update (mixKind X.prog X.w) a b hab hd2) ⟨vs, vs2, dd, dd2, by rw [← rel.length, ← rel2.length]; exact hz, fun h' dd' ho' hs => ?_⟩
    have he : ∃ q, h'.get? a = some q := let ⟨q, _, _, hq, _⟩ := dd'; ⟨q, hq⟩
    refine ⟨.non, _, d_write (t' := s.toks) I (by rw [e]; exact True.intro) hs he (dk_new ?_ hd (KV.merge rel2 rel) dd'), rfl, q⟩
    have := length_mergeK more kvs
    omega
def mergeP (kvs more : List (Key × PD)) : List (Key × PD) := more.foldl (fun acc kv => putP acc kv.1 kv.2) kvs
section
variable {X : CxT} {K : KT} {T : Nat → Bool} {e : Expr} {es : List Expr} {te : TE} {t : TA} {we : We} {wr wa : Wa} {pos p apos cpos : Pos} {x : Str}
theorem RpKv.merge {G : Hp} : ∀ {ws : List (Key × V)} {ms : List (Key × PD)} {vs : List (Key × V)} {ks : List (Key × PD)}, RpKv K G ws ms → RpKv K G vs ks → RpKv K G (mergeK vs ws) (mergeP ks ms)
  | _, _, _, _, .nil, r => r
  | (k, v) :: ws, (_, d) :: ms, vs, ks, .cons h t, r => by
    show RpKv K G (mergeK (putK vs k v) ws) (mergeP (putP ks k d) ms)
    exact RpKv.merge t (kv_put h r)
def wDUpd (j : Nat) (wa : Wa) : We := fun ρ Q => ownD j ρ fun _ => wa ρ fun rs ρ1 => ownD j ρ1 fun kvs => match rs with
  | [.dat (.dct more)] => kvs.length + more.length ≤ sizeLine ∧ Q (.dat .non) (ρ1.set j (.own (.dK (mergeP kvs more))))
  | _ => False
theorem we_dupd {j : Nat} (h : WAa K t wr) : WE K (tBM K "dict" rDUpd (tVar j) t) (wDUpd j wr) := fun B G H σ ρ Q QV R q k => by
  obtain ⟨xs0, e0, q⟩ := ownD_of q
  obtain ⟨p, vs0, hs, hp, r0⟩ := R.dK e0
  refine ⟨_, hs, Or.inr (Or.inr (Or.inl ⟨rfl, Or.inl ⟨_, hp⟩⟩)), ?_⟩
  refine h B G H σ ρ _ _ R q fun vs G1 H1 ρ1 rs S1 R1 rr q1 => ?_
  obtain ⟨xs, e2, q1⟩ := ownD_of q1
  obtain ⟨p', vs', hs', hp', r'⟩ := R1.dK e2
  rw [hs] at hs'; cases hs'
  obtain ⟨pp, ho, a1, a2, a3, a4, a5⟩ := R1.own _ _ e2
  rw [hs] at a1; cases a1
  match rs, rr, q1 with
  | [.dat (.dct more)], .cons (.dat rp) _ .nil, ⟨hz, q1⟩ =>
    cases rp with
    | @dct b ws _ hb rb =>
      have ne : p ≠ b := fun z => by subst z; rw [a3] at hb; cases hb
      obtain ⟨R3, S3⟩ := R1.write (ho' := .dK (mergeK vs' ws)) e2 hs (.dK (RpKv.merge rb r'))
      exact ⟨p, b, vs', ws, rfl, rfl, ne, hp', R1.gh _ _ hb nt_dK, by rw [r'.length, rb.length]; exact hz, k _ _ _ _ _ (S1.trans S3) R3 (.dat .non) q1⟩
theorem de_dupd {i : Nat} (hv : DE X (.Name x p) (tVar i) (wVar i)) (h : DA X (e :: es) t wr) (hbase : attributeBase (.Name x p) "update" X.env (eval (.Name x p) X.env) = eval (.Name x p) X.env := by rfl)
    (hfew : ((backTo cpos (starEach (e :: es) X.env)).all (fun x => !x.1) && (backToKw cpos (keywordEach [] X.env)).all (fun x => x.1.isSome) && decide ((e :: es).length + ([] : List Keyword).length + (if ([] : List Keyword).isEmpty then 0 else 1) < 30)) = true := by rfl)
    (hline : (apos.endLine == cpos.line) = true := by rfl) (hs : starEach (e :: es) X.env = (false, eval e X.env) :: starEach es X.env := by rfl) (hplain : (backTo cpos (starEach es X.env)).any (·.1) = false := by rfl) :
    DE X (.Call (.Attribute (.Name x p) "update" apos) (e :: es) [] cpos) (tBM X.K "dict" rDUpd (tVar i) t) (wDUpd i wr) := ⟨pe_bm PySem.F.plainAttrs_dict PySem.F.slot_dict_update PySem.F.type_dict_update mtd_update hv.pe h.pa hbase hfew hline hs hplain, we_dupd h.wa⟩
/-! ### {k: v, ..}, the keys texts -/
/-- a new thing, written anew -/
theorem Rep.redo {B : Addr → Prop} {G H : Hp} {σ : L2.St} {ρ : Sl} {p : Addr} {o o' : OD} {ho' : HO} (R : Rep K B G H σ ρ) (h : RR K B G H σ ρ (.ref p) (.own o)) (r : RO K G ho' o') :
    Rep K B G (upd H p ho') σ ρ ∧ RR K B G (upd H p ho') σ ρ (.ref p) (.own o') ∧ Stp B G H G (upd H p ho') := by
  cases h with
  | own h1 h2 h3 h4 h5 =>
    have S1 : Stp B G H G (upd H p ho') := ⟨Ex.refl G, fun _ _ h => h, fun _ _ h => h, fun a u hb h _ => by rw [upd_ne (nb_ne h3 hb)]; exact h, fun _ _ _ _ _ => rfl⟩
    refine ⟨⟨R.gh.right h2, R.tb.put h1 h4.nt h4.nc, R.z.step S1, fun a hb => (R.bh a hb).upd (nb_ne h3 hb), R.len, R.dat, fun j u hj => ?_, R.sep⟩, .own upd_same h2 h3 r h5, S1⟩
    obtain ⟨q, hq, g1, g2, g3, g4, g5⟩ := R.own j u hj
    have ne : q ≠ p := fun e => h5 j u hj (by rw [g1, e])
    exact ⟨q, hq, g1, by rw [upd_ne ne]; exact g2, g3, g4, g5⟩
def strV (ks : List Str) (vs : List V) : List (V × V) := (ks.zip vs).map fun kv => (V.str kv.1, kv.2)
/-- the pairs of a display -/
structure DPs (X : CxT) (pos : Pos) (keys : List (Option Expr)) (values : List Expr) (trs : List (TE × TE)) (ks : List Str) (wa : Wa) : Prop where
  ps : PPs X pos keys values trs
  wp : ∀ (B : Addr → Prop) (G H : Hp) (σ : L2.St) (ρ : Sl) (Q : List Rz → Sl → Prop) (QV : List (V × V) → Hp → Prop), Rep X.K B G H σ ρ → wa ρ Q →
    (∀ vs G' H' ρ' rs, Stp B G H G' H' → Rep X.K B G' H' σ ρ' → RRs X.K B G' H' σ ρ' vs rs → vs.length = ks.length → Q rs ρ' → QV (strV ks vs) H') → tPairs trs σ H QV
theorem dps_nil : DPs X pos [] [] [] [] wNil := ⟨pps_nil, fun B G H σ ρ Q QV R q k => k [] G H ρ [] .refl R .nil rfl q⟩
theorem dps_cons {k : Str} {j1 : Nat} {p1 : Pos} {keys : List (Option Expr)} {values : List Expr} {trs : List (TE × TE)} {ks : List Str} (he : DE X e te we) (hr : DPs X pos keys values trs ks wr) :
    DPs X pos (some (.Constant (.str k) j1 p1) :: keys) (e :: values) ((tC (.str k), te) :: trs) (k :: ks) (wCons we wr) :=
  ⟨pps_cons pe_str he.pe hr.ps, fun B G H σ ρ Q QV R q kk => by
    show te σ H _
    refine he.we B G H σ ρ _ _ R q fun v G1 H1 ρ1 r S1 R1 rr ⟨c1, q1⟩ => ?_
    obtain ⟨G1', S1', R1', rr1', cc, ec⟩ := rr.cool R1 c1
    refine hr.wp B G1' H1 σ ρ1 _ _ R1' q1 fun vs G2 H2 ρ2 rs S2 R2 rrs hl q2 => ?_
    exact kk (v :: vs) G2 H2 ρ2 (r.cool :: rs) ((S1.trans S1').trans S2) R2 (.cons (rr1'.stay cc S2.g) cc rrs) (by rw [List.length_cons, List.length_cons, hl]) q2⟩
def strD (ks : List Str) (ds : List PD) : List (Key × PD) := (ks.zip ds).map fun kv => (Sum.inr kv.1, kv.2)
def wDisp (ks : List Str) (wa : Wa) : We := fun ρ Q => wa ρ fun rs ρ1 => frz rs ρ1 fun ds ρ2 => Q (.own (.dK (mergeP [] (strD ks ds)))) ρ2
def strK (ks : List Str) (vs : List V) : List (Key × V) := (ks.zip vs).map fun kv => (Sum.inr kv.1, kv.2)
theorem rp_strK {G : Hp} : ∀ {ks : List Str} {vs : List V} {ds : List PD}, RpAll K G vs ds → RpKv K G (strK ks vs) (strD ks ds)
  | [], _, _, _ => .nil
  | _ :: _, _, _, .nil => .nil
  | k :: ks, _, _, .cons h r => .cons h (rp_strK r)
theorem de_disp {keys : List (Option Expr)} {values : List Expr} {trs : List (TE × TE)} {ks : List Str} (h : DPs X pos keys values trs ks wa) (hall : keys.all (·.isSome) = true := by rfl) (hl : keys.length = values.length := by rfl) (h0 : keys ≠ [] := by simp)
    (h15 : keys.length ≤ 15 := by decide) (h16 : ks.length ≤ 15 := by decide) : DE X (.Dict keys values pos) (tDisp trs) (wDisp ks wa) :=
  ⟨pe_disp h.ps hall hl h0 h15, fun B G H σ ρ Q QV R q k n hn => by
    refine Gv.new (K := X.K) (σ := σ) (ρ := ρ) (Q := fun r => r = Rz.own (.dK [])) (QV := fun v H' => v = .ref n → tPairs trs σ H' fun ps H2 => H2 n = some (.dK []) ∧ ∃ kvs : List (Key × V), ps = kvs.map (fun kv => (kV kv.1, kv.2)) ∧ kvs.length ≤ 15 ∧ QV (.ref n) (upd H2 n (.dK (mergeK [] kvs))))
      (fun v G1 H1 r S1 R1 rr1 q1 ev => ?_) R hn (.dK .nil) rfl rfl
    subst q1 ev
    refine h.wp _ G1 H1 σ ρ _ _ (R1.keep rr1) q fun vs G2 H2 ρ2 rs S2 R2 rrs hlen q2 => ?_
    have rr2 := rr1.kept S2 R2
    have R2w := R2.weak R1.z.b fun _ z => .inl z
    have S2w := S2.weak (B := B) fun _ z => .inl z
    obtain ⟨⟨ds, ρ3⟩, e3, q3⟩ := ok_some q2
    obtain ⟨G3, S3, R3, ra⟩ := frz_all R2 rrs e3
    have R3w := R3.weak R1.z.b fun _ z => .inl z
    have rr3 := rr1.kept (S2.trans S3) R3
    have hp : H2 n = some (.dK []) := by
      cases rr3 with
      | own h1 h2 h3 h4 h5 =>
        have := S2.h n (.dK []) (.inr ⟨_, rfl, rfl⟩)
        cases rr1 with
        | own g1 g2 g3 g4 g5 =>
          cases g4 with
          | dK r0 => cases r0; exact this g1 nt_dK
    refine ⟨hp, strK ks vs, ?_, ?_, ?_⟩
    · unfold strV strK
      rw [List.map_map]
      rfl
    · have : (strK ks vs).length ≤ ks.length := by
        unfold strK
        rw [List.length_map, List.length_zip]
        omega
      omega
    · obtain ⟨R4, rr4, S4⟩ := R3w.redo rr3 (ho' := .dK (mergeK [] (strK ks vs))) (.dK (RpKv.merge (rp_strK ra) .nil))
      exact k _ _ _ _ _ (((S1.trans S2w).trans (S3.weak fun _ z => .inl z)).trans S4) R4 rr4 q3⟩
/-! ### sorted(d), the keys texts -/
def strsOf : List (Key × PD) → Option (List Str)
  | [] => some []
  | (.inr k, _) :: r => (strsOf r).map (k :: ·)
  | _ :: _ => none
def dSortedD : Dn := fun ds k => match ds with
  | [.dct kvs] => ok (strsOf kvs) fun ks => ks.length < 64 ∧ ∀ ys : List Str, ys.Perm ks → sortedS ys = true → k (.own (.lst (ys.map PD.str)))
  | _ => False
theorem Vw.dct {G H : Hp} {v : V} {ks : List (Key × PD)} (e : Ex G H) (h : Vw K G H v (.dct ks)) : ∃ a vs, v = .ref a ∧ H a = some (.dK vs) ∧ RpKv K G vs ks := by
  rcases h with h | ⟨q, ho, o, rfl, h1, h2, h3⟩
  · cases h with
    | dct hq r => exact ⟨_, _, rfl, e _ _ hq nt_dK, r⟩
  · cases h2 with
    | lst => cases h3
    | dK r => cases h3; exact ⟨_, _, rfl, h1, r⟩
theorem strsOf_keys {G : Hp} : ∀ {vs : List (Key × V)} {ds : List (Key × PD)} {ks : List Str}, RpKv K G vs ds → strsOf ds = some ks → vs.map (·.1) = ks.map Sum.inr
  | _, _, ks, .nil, h => by cases h; rfl
  | (c, v) :: vs, (_, d) :: ds, ks, .cons r rs, h => by
    cases c with
    | inl i => cases h
    | inr y =>
      unfold strsOf at h
      cases hq : strsOf ds with
      | none => rw [hq] at h; cases h
      | some zs =>
        rw [hq] at h
        cases h
        rw [List.map_cons, List.map_cons, strsOf_keys rs hq]
theorem rp_strs {G : Hp} : ∀ ys : List Str, RpAll K G (ys.map V.str) (ys.map PD.str)
  | [] => .nil
  | y :: ys => .cons (.str y) (rp_strs ys)
theorem db_sortedD (hc : X.calm = true) : DB X (.builtin "sorted") (fun xs H Q => ∃ (a : Addr) (kvs : List (Key × V)) (ks : List Str), xs = [.ref a] ∧ Rd H a (.dK kvs) ∧ kvs.map (·.1) = ks.map Sum.inr ∧ ks.length < 64 ∧
    ∀ ys p, ys.Perm ks → sortedS ys = true → H p = none → Q (.ref p) (upd H p (.lst (ys.map V.str)))) dSortedD := by
  refine ⟨call_sortedD hc, fun B G H σ ρ xs ds Q QV R hv q k => ?_⟩
  match ds, hv, q with
  | [.dct kvs], .cons h .nil, q =>
    obtain ⟨ks, e, h64, q⟩ := ok_some q
    obtain ⟨a, us, rfl, ha, ra⟩ := Vw.dct R.gh h
    exact ⟨a, us, ks, rfl, Rd.of ha, strsOf_keys ra e, h64, fun ys p hp hs hn => k.new R hn (.lst (rp_strs ys)) (q ys hp hs)⟩
/-! ### sep.join(xs) -/
def strsIn : List PD → Option (List Str)
  | [] => some []
  | .str k :: r => (strsIn r).map (k :: ·)
  | _ :: _ => none
theorem strsIn_v {G : Hp} : ∀ {vs : List V} {ds : List PD} {ks : List Str}, RpAll K G vs ds → strsIn ds = some ks → vs = ks.map V.str
  | _, [], ks, .nil, h => by cases h; rfl
  | _, d :: ds, ks, .cons r rs, h => by
    cases d with
    | str y =>
      unfold strsIn at h
      cases hq : strsIn ds with
      | none => rw [hq] at h; cases h
      | some zs =>
        rw [hq] at h
        cases h
        cases r
        rw [List.map_cons, strsIn_v rs hq]
    | _ => cases h
def wJoin (wo we : We) : We := fun ρ Q => wo ρ fun r ρ1 => match r with
  | .dat (.str a) => we ρ1 fun r2 ρ2 => look r2 ρ2 fun d => match d with
    | .lst xs => ok (strsIn xs) fun ys => (ys.map (·.length)).sum + ys.length * a.length ≤ 16777216 ∧ Q (.dat (.str (Txt.join a ys))) ρ2
    | .tup xs => ok (strsIn xs) fun ys => (ys.map (·.length)).sum + ys.length * a.length ≤ 16777216 ∧ Q (.dat (.str (Txt.join a ys))) ρ2
    | _ => False
  | _ => False
def rJoin (K : PySem.W.Frag) : V → List V → Hp → VK → Prop := fun x xs H Q => ∃ a p, ∃ ys : List Str, x = .str a ∧ xs = [.ref p] ∧ (SqL K H p (ys.map V.str) ∨ SqT K H p (ys.map V.str)) ∧
      (ys.map (·.length)).sum + ys.length * a.length ≤ 16777216 ∧ Q (.str (Txt.join a ys)) H
theorem we_join {to tx : TE} {wo wx : We} (ho : WE K to wo) (hx : WE K tx wx) : WE K (tM1 (rJoin K) to tx) (wJoin wo wx) := fun B G H σ ρ Q QV R q k =>
  ho B G H σ ρ _ _ R q fun v G1 H1 ρ1 r S1 R1 rr1 q1 => by
    match r, rr1, q1 with
    | .dat (.str a), .dat rv, q1 =>
      cases rv
      refine ⟨⟨a, rfl⟩, hx B G1 H1 σ ρ1 _ _ R1 q1 fun y G2 H2 ρ2 r2 S2 R2 rr2 q2 => ?_⟩
      obtain ⟨d, ed, q2⟩ := ok_some q2
      have vw := rr2.vw R2 ed
      match d, vw, q2 with
      | .lst xs, vw, q2 =>
        obtain ⟨ys, ey, hz, q2⟩ := ok_some q2
        obtain ⟨p, us, rfl, hp, ra⟩ := vw.lst R2.gh
        have eu := strsIn_v ra ey
        subst eu
        exact ⟨a, p, ys, rfl, rfl, .inl (SqL.of hp), hz, k _ G2 H2 ρ2 _ (S1.trans S2) R2 (.dat (.str _)) q2⟩
      | .tup xs, vw, q2 =>
        obtain ⟨ys, ey, hz, q2⟩ := ok_some q2
        obtain ⟨p, us, rfl, hp, ra⟩ := vw.tup R2.gh
        have eu := strsIn_v ra ey
        subst eu
        exact ⟨a, p, ys, rfl, rfl, .inr hp, hz, k _ G2 H2 ρ2 _ (S1.trans S2) R2 (.dat (.str _)) q2⟩
theorem de_join {o e : Expr} {to te : TE} {wo we : We} {apos pos : Pos} (ho : DE X o to wo) (he : DE X e te we) (hs : starEach [e] X.env = [(false, eval e X.env)] := by rfl) (hbase : attributeBase o "join" X.env (eval o X.env) = eval o X.env := by rfl) (hline : (apos.endLine == pos.line) = true := by rfl) :
    DE X (.Call (.Attribute o "join" apos) [e] [] pos) (tM1 (rJoin X.K) to te) (wJoin wo we) := ⟨pe_join ho.pe he.pe hs hbase hline, we_join (K := X.K) ho.we he.we⟩
end
/-! ### try .. except as, the handler's tree told with its exception -/
section
variable {X : CxT} {T : Nat → Bool} {x n : Str} {CS : Addr} {i : Nat} {asg : List Nat} {body suite : List Stmt} {s0 : Stmt} {np pos pos' : Pos} {tb : WX → TS} {wb : Xp → Ws} {ws : Ws} {N : Nat} {cl : Nat → Addr}
theorem ds_try2 {ts2 : Addr → TS} (hs : X.stack = X.env :: X.outer) (hf : X.env.frame = some X.env.locals) (hex : X.ex = []) (hN : X.N.Nodup) (hi : X.N[i]? = some n) (hl : X.env.kindOf n = some .local) (hc : Names X x (.ref CS))
    (hm : ∀ j, j < N → PySem.W.exmOne X.cx.K (.ref (cl j)) (.ref CS) = some true) (hT : T i = false) (hA : asg.all (fun j => !T j) = true)
    (hb : ∀ (W : WX) (pn : List (Addr × Obj)) (xe : Value → Shared → Prop) (po : PassesOwn (model X.prog X.w) X.A X.env xe) (tk : Takes (X.cx.tr pn xe) W) (B0 : Addr → Prop) (G0 H0 : Hp) (Ξ : Xp) (lk : Lk X.cx.K B0 G0 H0 Ξ W),
      DSs ⟨X.cx.tr pn xe, X.T, B0, G0, H0, Ξ, W, po, tk, lk⟩ (fun j => !asg.contains j) body (tb W) (wb Ξ))
    (hW : ∀ (W : WX) (D : Ends) (σ : L2.St) (H : Hp), tb (fun cls d _ H' => W cls d σ H') D σ H → tb W D σ H)
    (hsu : ∀ a : Addr, DSs (X.hot a) T (s0 :: suite) (ts2 a) ws) (hts : ∀ a, ts2 a = ts2 0 := by intro _; rfl) :
    DS X T (.Try body [.ExceptHandler (some (.Name x np)) (some n) (s0 :: suite) pos'] [] [] pos) (fun D σ H => tb (wHot X.cx.K (.ref CS) i (ts2 0) D) D σ H) (wTry i asg N cl wb ws) :=
  ds_try hs hf hex hN hi hl hc hm hT hA hb hW (fun a => by rw [← hts a]; exact hsu a)
end
end DL

set_option Elab.async false
set_option linter.all false
set_option maxRecDepth 100000
set_option maxHeartbeats 2000000
namespace DL
open PySem L2
section
variable {X : CxT} {K : KT} {T : Nat → Bool} {e : Expr} {es : List Expr} {te : TE} {we : We} {wa : Wa} {t : TA} {pos p pos' : Pos} {x : Str} {C : Addr} {f : Str}
/-! ### e.f, e an instance of one of the program's classes -/
def wFld (C : Addr) (f : Str) (we : We) : We := fun ρ Q => we ρ fun r ρ1 => look r ρ1 fun d => match d with
  | .ins C' fs => C' = C ∧ ok (fs.lookup f) fun v => Q (.dat v) ρ1
  | _ => False
theorem kv_lookup {KF : PySem.W.Frag} {G : Hp} {f : Str} : ∀ {vfs : List (Str × V)} {fs : List (Str × PD)} {d : PD}, RpKv KF G (vfs.map fun p => ((Sum.inr p.1 : Key), p.2)) (fs.map fun p => ((Sum.inr p.1 : Key), p.2)) → fs.lookup f = some d → ∃ v, vfs.lookup f = some v ∧ Rp KF G v d
  | [], [], d, _, h => by cases h
  | [], (_, _) :: _, d, r, h => by cases r
  | (_, _) :: _, [], d, r, h => by cases r
  | (k, v) :: vfs, (k', d') :: fs, d, r, h => by
    rw [List.map_cons, List.map_cons] at r
    cases r with
    | cons r1 r2 =>
      by_cases hk : f = k
      · subst hk
        rw [List.lookup_cons_self] at h ⊢
        cases h
        exact ⟨v, rfl, r1⟩
      · have e1 : (f == k) = false := by simpa using hk
        rw [List.lookup_cons, e1] at h ⊢
        exact kv_lookup r2 h
theorem Vw.ins {G H : Hp} {v : V} {fs : List (Str × PD)} (e : Ex G H) (h : Vw K G H v (.ins C fs)) : ∃ a dx vfs, v = .ref a ∧ H a = some (.ins C dx vfs) ∧ H dx = some (.own a) ∧ RpKv K.F G (vfs.map fun p => ((Sum.inr p.1 : Key), p.2)) (fs.map fun p => ((Sum.inr p.1 : Key), p.2)) := by
  rcases h with h | ⟨q, ho, o, rfl, h1, h2, h3⟩
  · cases h with
    | ins h1 h2 r => exact ⟨_, _, _, rfl, e _ _ h1 (fun _ z => by cases z), e _ _ h2 (fun _ z => by cases z), r⟩
  · cases h2 <;> cases h3
theorem we_fld (hC : Cls K.F C) (hn : NoAttr K.F C f) (h : WE K te we) : WE K (tFld K.F te f) (wFld C f we) := fun B G H σ ρ Q QV R q k =>
  h B G H σ ρ _ _ R q fun v G1 H1 ρ1 r S1 R1 rr q1 => by
    obtain ⟨d, ed, q1⟩ := ok_some q1
    have vw := rr.vw R1 ed
    match d, vw, q1 with
    | .ins C' fs, vw, q2 =>
      obtain ⟨eC, q3⟩ := q2
      obtain ⟨u, eu, q4⟩ := ok_some q3
      obtain ⟨a, dx, vfs, ev, ha, _, ra⟩ := Vw.ins R1.gh vw
      obtain ⟨w, ew, rw'⟩ := kv_lookup ra eu
      exact ⟨a, C', dx, vfs, w, ev, ha, by rw [eC]; exact hC, by rw [eC]; exact hn, ew, k w G1 H1 ρ1 _ S1 R1 (.dat rw') q4⟩
theorem de_fld (hC : Cls X.cx.K C) (hn : NoAttr X.cx.K C f) (h : DE X e te we) (hb : attributeBase e f X.env (eval e X.env) = eval e X.env := by rfl) : DE X (.Attribute e f pos) (tFld X.cx.K te f) (wFld C f we) := ⟨pe_fld h.pe hb, we_fld (K := X.K) hC hn h.we⟩
/-! ### C(e), by the class's own __init__ -/
structure IniG (P : Program) (w : World) (KF : PySem.W.Frag) (mg : Str → Option Value) (base : Heap) (k : Nat) (f : Addr) (fd : FuncData) (ps : List Str) (sp : Sp) : Prop where
  len : ∀ vs H Q E, sp vs H Q E → vs.length = ps.length
  run : ∀ (A : Around) (outer : List PySem.Env) (s : Shared) (H : Hp) (args : Args) (us : List Value) (vs : List V) (Q : VK) (E : XK), Room k A → A.guards = some [] → Env0 P w KF mg base A outer s H → BindsTo s fd args (ps.zip us) → Vals vs us → sp vs H Q E →
    codeAny (model P w) A (.call (.ref f) args) (CR (L2.CX P w) outer P w H s Q E) s
def tMakeW (C : Addr) (sp : Sp) (W : WX) (t : TA) : TE := fun σ H Q => t σ H fun vs H1 => ∀ x dx, H1 x = none → H1 dx = none → dx ≠ x → sp (.ref x :: vs) (upd (upd H1 dx (.own x)) x (.ins C dx [])) (fun v H2 => v = .non ∧ Q (.ref x) H2) (fun cls d H' => W cls d σ H')
theorem pe_makeW {Z : Cx} {k : Nat} {fd : FuncData} {fI : Addr} {ps : List Str} {sp : Sp} {W : WX} (M : L2.Mk Z.K C fI) (F : IniG Z.prog Z.w Z.K Z.mg Z.base k fI fd ps sp) (hr : Room (k + 1) Z.A) (hgd : Z.A.guards = some []) (hg : Gl Z x) (hm : Z.mg x = some (.ref C)) (hb : Binds Z.K fd ps []) (tk : Takes Z W)
    (ha : PA Z (e :: es) t) (hdb : (x == ("__debug__" : Str)) = false := by decide) (he : starEach (e :: es) Z.env = (false, eval e Z.env) :: starEach es Z.env := by rfl) (hpl : (backTo pos (starEach es Z.env)).any (·.1) = false := by rfl) :
    PE Z (.Call (.Name x p) (e :: es) [] pos) (tMakeW C sp W t) := by
  refine ⟨fun pins s σ H Q I h => ?_⟩
  refine wpAny_Call_Name_kw (ld_glob I hg hm ?_ hdb)
  refine PySem.W.callWith_K (h₀ := Z.base) I.ok.mod.kin M.kp (thn (ha.run pos pins s σ H _ I h) fun us s1 ⟨vs, H1, I1, r, q⟩ => ⟨I1.kIn, ?_⟩) he hpl
  have hq := q (s1.heap.objs.size + 1) s1.heap.objs.size (I1.hok.fresh (Nat.le_succ _)) (I1.hok.fresh (Nat.le_refl _)) (Nat.ne_of_lt (Nat.lt_succ_self _))
  have I2 := Inv.made (C := C) I1
  have r2 : Vals (V.ref (s1.heap.objs.size + 1) :: vs) (Value.ref (s1.heap.objs.size + 1) :: us) := .cons rfl r
  have hl : ((Value.ref (s1.heap.objs.size + 1) :: us) ++ []).length = ps.length := by
    rw [List.append_nil]
    have e := r2.length
    rw [F.len _ _ _ _ hq] at e
    exact e.symm
  have hb2 := hb _ (Value.ref (s1.heap.objs.size + 1) :: us) I2.kIn hl
  rw [List.append_nil] at hb2
  refine wpAny_call (make_map (f := fI) I1.kIn M.makes M.init (beq_iff_eq.mp M.fn) (codeAny_mono (F.run _ Z.stack _ _ ⟨Value.ref (s1.heap.objs.size + 1) :: us, []⟩ (Value.ref (s1.heap.objs.size + 1) :: us) _ _ (fun cls d H' => W cls d σ H') (hr.make C us [])
    (by first | exact hgd | (simp only [Around.under]; exact hgd)) (I2.env0.make C us []) hb2 r2 hq) fun r s' hq' => ?_))
  cases r with
  | error e =>
    exact passAt tk σ pins _ _ e s' I2 hq'
  | ok fl =>
    cases fl with
    | ret u =>
      obtain ⟨v, H', I3, rv, ev, q3⟩ := I2.after hq'
      subst ev
      exact ⟨rv, ⟨V.ref (s1.heap.objs.size + 1), H', I3, rfl, q3⟩⟩
    | next => exact False.elim hq'
    | brk => exact False.elim hq'
    | cont => exact False.elim hq'
/-- what an __init__ does that keeps in its first field what a def makes of what it gets, in its second what it gets -/
def spIni (KF : PySem.W.Frag) (Ts : List (Addr × Str)) (C : Addr) (f1 f2 : Str) (F : Fd) : Sp := fun vs H Q E => ∃ (x dx : Addr) (v : V) (B : Addr → Prop) (G : Hp) (t : PD) (QR : PD → Prop) (Ξ : Xp), vs = [.ref x, v] ∧ H x = some (.ins C dx []) ∧ H dx = some (.own x) ∧ dx ≠ x ∧ G x = none ∧ G dx = none ∧ ¬ B x ∧ ¬ B dx ∧
  Rep ⟨KF, Ts, B, G, H⟩ B G H [] [] ∧ Rp KF G v t ∧ F [.dat t] (fun r _ => ∃ d, r = .dat d ∧ QR d) Ξ ∧
  (∀ d G' H', Stp B G H G' H' → Rep ⟨KF, Ts, B, G, H⟩ B G' H' [] [] → Rp KF G' (.ref x) (.ins C [(f1, d), (f2, t)]) → QR d → Q .non H') ∧ Lk KF B G H Ξ (fun cls d _ H' => E cls d H')
def wMake (C : Addr) (f1 f2 : Str) (F : Fd) (Ξ : Xp) (wa : Wa) : We := fun ρ Q => wa ρ fun rs ρ1 => frz rs ρ1 fun ds ρ2 => match ds with
  | [t] => F [.dat t] (fun r _ => ∃ d, r = .dat d ∧ Q (.dat (.ins C [(f1, d), (f2, t)])) ρ2) Ξ
  | _ => False
theorem we_make {f1 f2 : Str} {F : Fd} {W : WX} {Ξ : Xp} (lk : Lk K.F K.B0 K.G0 K.H0 Ξ W) (h : WAa K t wa) : WE K (tMakeW C (spIni K.F K.T C f1 f2 F) W t) (wMake C f1 f2 F Ξ wa) := fun B G H σ ρ Q QV R q k =>
  h B G H σ ρ _ _ R q fun vs G1 H1 ρ1 rs S1 R1 rr q1 => by
    obtain ⟨⟨ds, ρ2⟩, e, q1⟩ := ok_some q1
    obtain ⟨G2, S2, R2, ra⟩ := frz_all R1 rr e
    match ds, ra, q1 with
    | [d], ra, q1 =>
      obtain ⟨v, ev, rv⟩ := ra.one
      subst ev
      intro x dx hx hdx ne
      have gx : G2 x = none := R2.gh.free R2.tb hx
      have gdx : G2 dx = none := R2.gh.free R2.tb hdx
      have nb : ¬ All H1 x := fun z => z.no hx
      have nbd : ¬ All H1 dx := fun z => z.no hdx
      have hx1 : (upd H1 dx (.own x)) x = none := by rw [upd_ne (Ne.symm ne)]; exact hx
      have S0 : Stp (All H1) G2 H1 G2 (upd (upd H1 dx (.own x)) x (.ins C dx [])) := ⟨Ex.refl _, fun _ _ h => h, fun _ _ h => h, fun a o hb h _ => by
        rw [upd_ne (nb_ne nb hb), upd_ne (nb_ne nbd hb)]; exact h, fun _ _ _ _ _ => rfl⟩
      have gh0 : Ex G2 (upd (upd H1 dx (.own x)) x (.ins C dx [])) := (R2.gh.right gdx).right gx
      have tb0 : Tb G2 (upd (upd H1 dx (.own x)) x (.ins C dx [])) := (R2.tb.new hdx).new hx1
      have bh0 : ∀ a, All H1 a → Tr (upd (upd H1 dx (.own x)) x (.ins C dx [])) a := fun a ha => (Tr.upd (Tr.upd ha (nb_ne nbd ha)) (nb_ne nb ha))
      have z0 : Zt ⟨K.F, K.T, All H1, G2, upd (upd H1 dx (.own x)) x (.ins C dx [])⟩ (All H1) G2 (upd (upd H1 dx (.own x)) x (.ins C dx [])) := ⟨fun _ h => h, .refl, fun p hp => R2.z.m p hp, fun a ps h => R2.z.m2 a ps h⟩
      refine ⟨x, dx, v, All H1, G2, d, _, Ξ, rfl, upd_same, by rw [upd_ne ne]; exact upd_same, ne, gx, gdx, nb, nbd, ⟨gh0, tb0, z0, bh0, rfl, fun i d h => by simp at h, fun i o h => by simp at h, fun i j o u p h => by simp at h⟩, rv, q1, fun d' G' H' S' R' rp qd => ⟨rfl, ?_⟩, ?_⟩
      · have S3 := S0.trans S'
        have R3 := R2.over S3 (fun a ha => R'.bh a ha) R'.gh R'.tb
        exact k _ G' H' ρ2 _ ((S1.trans S2).trans (S3.weak R2.bh)) R3 (.dat rp) qd
      · intro G' H' σ' C' dd fs v' u' S' b1 tb1 gh1 hd gd hv rv' hΞ
        have S3 := S0.trans S'
        have R3 := R2.over S3 (fun a ha => b1 a ha) gh1 tb1
        exact lk G' H' σ C' dd fs v' u' R3.z.s (fun a h => R3.bh a (R3.z.b a h)) tb1 gh1 hd gd hv rv' hΞ
/-- a class that can be made by its name -/
structure Mkr (P : Program) (w : World) (KF : PySem.W.Frag) (Ts : List (Addr × Str)) (mg : Str → Option Value) (base : Heap) (k : Nat) (x : Str) (C : Addr) (f1 f2 : Str) (F : Fd) : Prop where
  ex : ∃ (fI : Addr) (fd : FuncData) (ps : List Str), mg x = some (.ref C) ∧ L2.Mk KF C fI ∧ IniG P w KF mg base k fI fd ps (spIni KF Ts C f1 f2 F) ∧ Binds KF fd ps []
theorem de_make {k : Nat} {f1 f2 : Str} {F : Fd} (M : Mkr X.prog X.w X.cx.K X.T X.mg X.base k x C f1 f2 F) (hr : Room (k + 1) X.A) (hgd : X.A.guards = some []) (ha : DA X (e :: es) t wa) (hg : Gl X x := by rfl)
    (hdb : (x == ("__debug__" : Str)) = false := by decide) (he : starEach (e :: es) X.env = (false, eval e X.env) :: starEach es X.env := by rfl) (hpl : (backTo pos (starEach es X.env)).any (·.1) = false := by rfl) :
    DE X (.Call (.Name x p) (e :: es) [] pos) (tMakeW C (spIni X.cx.K X.T C f1 f2 F) X.W t) (wMake C f1 f2 F X.Ξ wa) := by
  obtain ⟨fI, fd, ps, hm, M1, F1, hb⟩ := M.ex
  exact ⟨pe_makeW M1 F1 hr hgd hg hm hb X.tk ha.pa hdb he hpl, we_make (K := X.K) X.lk ha.wa⟩
end
end DL

set_option Elab.async false
set_option linter.all false
set_option maxRecDepth 100000
set_option maxHeartbeats 2000000
namespace DL
open PySem L2
/-! ### an __init__ of two rows: self.f1 = g(x), self.f2 = x -/
section
variable {P : Program} {w : World} {KF : PySem.W.Frag} {Ts : List (Addr × Str)} {mg : Str → Option Value} {base : Heap}
theorem ini_of {C : Addr} {f1 f2 x qual g : Str} {fI : Addr} {oc kV doc pm cdv ct : Value} {od an : Option Addr} {osl : Array (Option Value)} {k : Nat} {F : Fd} {p1 p2 p3 p4 p5 p6 q1 q2 q3 q4 : Pos} {ag : Arguments} {scp : Scope} {gps : List Str}
    (lk : KF.lookup fI = some ⟨oc, od, .func (PySem.W.fnOf "__init__" qual ag [.Assign [.Attribute (.Name "self" p1) f1 p2] (.Call (.Name g p3) [.Name x p4] [] p5) p6, .Assign [.Attribute (.Name "self" q1) f2 q2] (.Name x q3) q4] scp .none kV doc pm an cdv ct), osl⟩)
    (hcd : PySem.W.codeIn KF cdv qual = true) (S : FnScope ["self", x] ["self", x] scp) (C0 : Cal P w KF Ts mg base k g gps F) (hgp : gps.length = 1) (hC : Cls KF C) (n1 : NoAttr KF C f1) (n2 : NoAttr KF C f2) (hne : f1 ≠ f2) (hx : x ≠ "self")
    (hg : ∀ (A : Around) (outer : List PySem.Env) (s : Shared) (H : Hp) (E : XK), Gl (cxOf (L2.CX P w) P w KF mg base ["self", x] qual scp fI cdv A outer s H E) g)
    (hs1 : ∀ (A : Around) (outer : List PySem.Env) (s : Shared) (H : Hp) (E : XK), Vis (cxOf (L2.CX P w) P w KF mg base ["self", x] qual scp fI cdv A outer s H E).env.scope "self")
    (hs2 : ∀ (A : Around) (outer : List PySem.Env) (s : Shared) (H : Hp) (E : XK), Vis (cxOf (L2.CX P w) P w KF mg base ["self", x] qual scp fI cdv A outer s H E).env.scope x)
    (hd1 : (g == ("__debug__" : Str)) = false) (hd2 : (x == ("__debug__" : Str)) = false) (hd3 : (x == ("__classdict__" : Str)) = false)
    (hst : ∀ (A : Around) (outer : List PySem.Env) (s : Shared) (H : Hp) (E : XK), starEach [.Name x p4] (cxOf (L2.CX P w) P w KF mg base ["self", x] qual scp fI cdv A outer s H E).env = (false, eval (.Name x p4) (cxOf (L2.CX P w) P w KF mg base ["self", x] qual scp fI cdv A outer s H E).env) :: starEach [] (cxOf (L2.CX P w) P w KF mg base ["self", x] qual scp fI cdv A outer s H E).env)
    (hsw1 : ∀ (A : Around) (outer : List PySem.Env) (s : Shared) (H : Hp) (E : XK), swapsWith (.Call (.Name g p3) [.Name x p4] [] p5) (some (.Attribute (.Name "self" p1) f1 p2)) p6.line (cxOf (L2.CX P w) P w KF mg base ["self", x] qual scp fI cdv A outer s H E).env = pure false)
    (hsw2 : ∀ (A : Around) (outer : List PySem.Env) (s : Shared) (H : Hp) (E : XK), swapsWith (.Name x q3) (some (.Attribute (.Name "self" q1) f2 q2)) q4.line (cxOf (L2.CX P w) P w KF mg base ["self", x] qual scp fI cdv A outer s H E).env = pure false) :
    IniG P w KF mg base (k + 1) fI (PySem.W.fnOf "__init__" qual ag [.Assign [.Attribute (.Name "self" p1) f1 p2] (.Call (.Name g p3) [.Name x p4] [] p5) p6, .Assign [.Attribute (.Name "self" q1) f2 q2] (.Name x q3) q4] scp .none kV doc pm an cdv ct) ["self", x] (spIni KF Ts C f1 f2 F) := by
  refine ⟨fun vs H Q E h => ?_, fun A outer s H args us vs Q E hr hgd e0 hb r h => ?_⟩
  · obtain ⟨a, _, v, _, _, _, _, _, rfl, _⟩ := h; rfl
  · obtain ⟨a, dx, v, B, G, t, QR, Ξ, rfl, ha, hdx, ne, ga, gdx, nb, nbd, R, rv, hF, hk, hx'⟩ := h
    refine LamX.run_ofS (N := ["self", x]) (ps := ["self", x]) lk hcd S hr e0 hb r rfl fun hr' => ?_
    have call := de_calW (X := cxT P w KF Ts mg base ["self", x] qual scp fI cdv A outer s H E B G Ξ hx') (e := .Name x p4) (es := []) (W := fun cls d _ H' => E cls d H') (Ξ := Ξ) (p := p3) (pos := p5) C0 hr' hgd
      (da_cons (dv 1 (pos := p4) (hN := rfl) (hv := hs2 A outer s H E) (hd := hd2) (hcd := hd3)) da_nil (hs := hst A outer s H E)) (hK := rfl) (hT := rfl) (hW := rfl) (hΞ := rfl) (hg := hg A outer s H E) (hdb := hd1) (he := hst A outer s H E) (hpl := rfl) (hn := hgp)
    refine ⟨_, pss_cons (ps_fld (pe_var (i := 0) rfl (hs1 A outer s H E) (by decide) (by decide)) call.pe (hsw1 A outer s H E)) (pss_one (ps_fld (pe_var (i := 0) rfl (hs1 A outer s H E) (by decide) (by decide)) (pe_var (i := 1) rfl (hs2 A outer s H E) hd2 hd3) (hsw2 A outer s H E))), ?_⟩
    let B' : Addr → Prop := fun b => B b ∨ b = a ∨ b = dx
    have trA : Tr H a := ⟨_, ha, fun _ z => by cases z⟩
    have trD : Tr H dx := ⟨_, hdx, fun _ z => by cases z⟩
    have R0 : Rep ⟨KF, Ts, B, G, H⟩ B' G H (L2.start ["self", x] [.ref a, v]) [.emp, .dat t] := by
      refine ⟨R.gh, R.tb, R.z.more fun _ z => .inl z, fun b hb => ?_, rfl, fun i d h => ?_, fun i o h => ?_, fun i j o u p h => ?_⟩
      · rcases hb with hb | rfl | rfl
        · exact R.bh b hb
        · exact trA
        · exact trD
      · match i, h with
        | 0, h => cases h
        | 1, h => cases h; exact ⟨v, rfl, rv⟩
        | i + 2, h => simp at h
      · match i, h with
        | 0, h => cases h
        | 1, h => cases h
        | i + 2, h => simp at h
      · match i, h with
        | 0, h => cases h
        | 1, h => cases h
        | i + 2, h => simp at h
    unfold tSeq
    unfold sFld
    refine call.we B' G H (L2.start ["self", x] [.ref a, v]) [.emp, .dat t] (fun r ρ => ∃ d, r = .dat d ∧ QR d) _ R0 ?_ fun y G1 H1 ρ1 r S1 R1 rr ⟨d, er, qd⟩ => ?_
    · show (true = true ∨ _) ∧ _
      refine ⟨.inl rfl, rfl, rfl, ?_⟩
      exact hF
    · subst er
      cases rr with
      | dat ry =>
        have h1a : H1 a = some (.ins C dx []) := S1.h _ _ (.inr (.inl rfl)) ha fun _ z => by cases z
        have h1d : H1 dx = some (.own a) := S1.h _ _ (.inr (.inr rfl)) hdx fun _ z => by cases z
        have g1a : G1 a = none := (S1.n _ _ (.inr (.inl rfl)) ha True.intro).trans ga
        have g1d : G1 dx = none := (S1.n _ _ (.inr (.inr rfl)) hdx True.intro).trans gdx
        refine ⟨.ref a, rfl, a, C, dx, [], rfl, h1a, hC, n1, by decide, ?_⟩
        refine ⟨v, rfl, .ref a, rfl, a, C, dx, putF f1 y [], rfl, upd_same, hC, n2, by show 1 < 1000; decide, ?_⟩
        have e2 : putF f2 v (putF f1 y []) = [(f1, y), (f2, v)] := by
          simp [putF, hne]
        rw [e2, upd_twice]
        have S1w : Stp B G H G1 H1 := S1.weak fun _ z => .inl z
        have E1 : Ex G1 (upd (upd G1 dx (.own a)) a (.ins C dx [(f1, y), (f2, v)])) := (Ex.new g1d).trans (Ex.new (by rw [upd_ne (Ne.symm ne)]; exact g1a))
        have hcons : upd (upd H1 dx (.own a)) a (.ins C dx [(f1, y), (f2, v)]) = upd H1 a (.ins C dx [(f1, y), (f2, v)]) := by
          funext b
          by_cases hb : b = a
          · subst hb; rw [upd_same, upd_same]
          · rw [upd_ne hb, upd_ne hb]
            by_cases hb2 : b = dx
            · subst hb2; rw [upd_same, h1d]
            · rw [upd_ne hb2]
        have S2 : Stp B G1 H1 (upd (upd G1 dx (.own a)) a (.ins C dx [(f1, y), (f2, v)])) (upd H1 a (.ins C dx [(f1, y), (f2, v)])) := by
          refine ⟨E1, fun b ps h => ?_, fun b ps h => ?_, fun b o hb h _ => ?_, fun b o hb h _ => ?_⟩
          · rw [upd_ne (ne_of_none h g1a), upd_ne (ne_of_none h g1d)]; exact h
          · exact mark_old (o := .own a) (fun _ z => by cases z) (mark_old (o := .ins C dx [(f1, y), (f2, v)]) (fun _ z => by cases z) h)
          · rw [upd_ne (nb_ne nb hb)]; exact h
          · rw [upd_ne (nb_ne nb hb), upd_ne (nb_ne nbd hb)]
        have gh2 : Ex (upd (upd G1 dx (.own a)) a (.ins C dx [(f1, y), (f2, v)])) (upd H1 a (.ins C dx [(f1, y), (f2, v)])) := by
          intro b o h n
          by_cases hb : b = a
          · subst hb; rw [upd_same] at h ⊢; exact h
          · rw [upd_ne hb] at h ⊢
            by_cases hb2 : b = dx
            · subst hb2; rw [upd_same] at h; cases h; exact h1d
            · rw [upd_ne hb2] at h; exact R1.gh b o h n
        have tb2 : Tb (upd (upd G1 dx (.own a)) a (.ins C dx [(f1, y), (f2, v)])) (upd H1 a (.ins C dx [(f1, y), (f2, v)])) :=
          ((R1.tb.put h1a (fun _ z => by cases z) (fun _ _ z => by unfold LamX.CodeO at z; cases z)).mark (fun _ z => by cases z)).mark (fun _ z => by cases z)
        refine hk d _ _ (S1w.trans S2) ⟨gh2, tb2, R.z.step (S1w.trans S2), fun b hb => ?_, rfl, fun i d h => by simp at h, fun i o h => by simp at h, fun i j o u p h => by simp at h⟩ ?_ qd
        · obtain ⟨u, hu, nu⟩ := R1.bh b (.inl hb)
          exact ⟨u, by rw [upd_ne (nb_ne nb hb)]; exact hu, nu⟩
        · exact .ins (dx := dx) upd_same (by rw [upd_ne ne]; exact upd_same) (.cons (ry.mono E1) (.cons ((rv.mono S1w.g).mono E1) .nil))
end
end DL

set_option Elab.async false
set_option linter.all false
set_option maxRecDepth 100000
set_option maxHeartbeats 2000000
namespace DL
open PySem PySem.Calls PyProof.Rows L2
/-! ### methods of the program's classes; len(e) by an own __len__ -/
structure Mth (P : Program) (w : World) (KF : PySem.W.Frag) (Ts : List (Addr × Str)) (mg : Str → Option Value) (base : Heap) (k : Nat) (C : Addr) (m : Str) (ps : List Str) (F : Fd) : Prop where
  ex : ∃ (f : Addr) (fd : FuncData), PySem.W.findIn KF (.ref C) m = some (some (.ref f)) ∧ PySem.W.isFn KF (.ref f) = true ∧ PySem.W.keepIn KF (.ref f) = true ∧ Binds KF fd ps [] ∧ FnG P w KF Ts mg base k f fd ps F
section
variable {prog : Program} {w : World} {A : Around} {E : Value → Shared → Prop} {s : Shared} {K : PySem.W.Frag} {x C f : Addr} {ox : Obj} {od : Option Obj}
theorem len_own {Q : Value → Shared → Prop} (X : K.In s.heap) (I : PySem.W.InstAt s.heap x ox C od) (hs : PySem.W.findIn K (.ref C) "__len__" = some (some (.ref f))) (hf : PySem.W.isFn K (.ref f) = true)
    (h : wpAny (model prog w) A.in1 (call (.ref f) [.ref x]) (PySem.W.LenBack Q) E s) : wpAny (model prog w) A (call (.builtin "len") [.ref x]) Q E s := by
  refine Calls.call_function_entry kind_len plain_len entry_len (args_len1 _) ?_
  unfold Builtin.«len»
  refine wpAny_bind (m := oneArg "len" _) (wpAny_pure ?_)
  refine wpAny_bind (m := callSpecial? (.ref x) (Str.ofString "__len__")) (PySem.W.special_fn X I hs (beq_iff_eq.mp hf) (wpAny_mono h (fun r s' hr => ?_) fun _ _ y => y))
  cases r <;> first | exact hr.elim | skip
  rename_i n u
  obtain ⟨⟨h0, h1⟩, hq⟩ := hr
  refine wpAny_bind (wpAny_holding (wpAny_pure ?_))
  refine wpAny_bind (wpAny_letGo ?_)
  show wpAny _ _ (if n < 0 then _ else _) _ _ _
  rw [if_neg (by omega)]
  show wpAny _ _ (if n ≥ 2 ^ 63 then _ else _) _ _ _
  rw [if_neg (by omega)]
  exact wpAny_bind (wpAny_mkInt (wpAny_pure ⟨_, rfl, hq⟩))
end
section
variable {X : CxT} {K : KT} {e : Expr} {te : TE} {we : We} {pos p : Pos} {x : Str} {C : Addr}
def tLenO (KF : PySem.W.Frag) (Ts : List (Addr × Str)) (C : Addr) (F : Fd) (te : TE) : TE := fun σ H Q => te σ H fun x H1 => ∃ a dx fs, x = .ref a ∧ H1 a = some (.ins C dx fs) ∧
  SpG KF Ts 1 F [.ref a] H1 (fun v H2 => ∃ n : Int, v = .int n ∧ 0 ≤ n ∧ n < 2 ^ 63 ∧ Q (.int n) H2) (fun _ _ _ => False)
theorem pe_lenO {Z : Cx} {Ts : List (Addr × Str)} {k : Nat} {ps : List Str} {F : Fd} (M : Mth Z.prog Z.w Z.K Ts Z.mg Z.base k C "__len__" ps F) (hps : ps.length = 1) (hr : Room (k + 1) Z.A) (hgd : Z.A.guards = some []) (gl : Gl Z "len") (ml : Z.mg "len" = none) (he : PE Z e te)
    (st : starEach [e] Z.env = (false, eval e Z.env) :: starEach [] Z.env := by rfl) : PE Z (.Call (.Name "len" p) [e] [] pos) (tLenO Z.K Ts C F te) := by
  obtain ⟨f, fd, h1, h2, h3, hb, F0⟩ := M.ex
  constructor
  intro pins s σ H Q I h
  refine Call_ (ld_blt I gl ml boot_len ?_)
  refine PyProof.Rows.callWith_builtin1 (PyProof.Rows.args_cons (thn (he.run pins s σ H _ I h) fun u s1 ⟨y, H1, I1, ry, a, dx, fs, ey, ha, B, G, as, Q', Ξ, hl, R, hF, hk, hx⟩ => PyProof.Rows.args_nil ?_) st) st rfl
  subst ey
  obtain rfl : u = Value.ref a := ry
  obtain ⟨mA, om, _⟩ := ins_get I1.hok ha
  obtain ⟨od, inst, _⟩ := om.look
  refine len_own I1.kIn inst h1 h2 ?_
  have hb' := hb s1 [.ref a] I1.kIn (by simp [hps])
  rw [List.append_nil] at hb'
  refine wpAny_call (codeAny_mono (F0.run Z.A.in1 Z.stack s1 H1 ⟨[.ref a], []⟩ [.ref a] [.ref a] B G as Q' Ξ _ (fun _ _ _ => False) hr.in1 hgd I1.env0.in1 hb' (.cons rfl .nil) (by simp [hps]) R hF hk hx) fun r s' hq => ?_)
  match r, hq with
  | .ok (.ret u), hq =>
    obtain ⟨v, H', I2, rv, n, ev, n0, n1, q⟩ := I1.after hq
    subst ev
    obtain ⟨t, rfl⟩ := rv
    exact ⟨⟨n0, n1⟩, .int n, H', I2.tok _, ⟨_, rfl⟩, q⟩
  | .ok .next, hq => exact False.elim hq
  | .ok .brk, hq => exact False.elim hq
  | .ok .cont, hq => exact False.elim hq
  | .error e, ⟨_, _, _, _, _, _, _, _, _, _, _, _, z⟩ => exact False.elim z
def wLenO (C : Addr) (F : Fd) (we : We) : We := fun ρ Q => we ρ fun r ρ1 => look r ρ1 fun d => (∃ fs, d = .ins C fs) ∧ F [.dat d] (fun r' _ => ∃ n : Int, r' = .dat (.int n) ∧ 0 ≤ n ∧ n < 2 ^ 63 ∧ Q (.dat (.int n)) ρ1) noX
theorem we_lenO {F : Fd} (h : WE K te we) : WE K (tLenO K.F K.T C F te) (wLenO C F we) := fun B G H σ ρ Q QV R q k =>
  h B G H σ ρ _ _ R q fun v G1 H1 ρ1 r S1 R1 rr q1 => by
    obtain ⟨d, ed, ⟨fs, rfl⟩, hF⟩ := ok_some q1
    have vw := rr.vw R1 ed
    have rp : Rp K.F G1 v (.ins C fs) := by
      rcases vw with h | ⟨q, ho, o, rfl, h1, h2, h3⟩
      · exact h
      · cases h2 <;> cases h3
    obtain ⟨a, dx, vfs, ev, ha, hdx, ra⟩ := Vw.ins R1.gh vw
    subst ev
    have S0 : Stp (All H1) G1 H1 G1 H1 := .refl
    refine ⟨a, dx, vfs, rfl, ha, All H1, G1, [.dat (.ins C fs)], _, noX, rfl, ⟨R1.gh, R1.tb, ⟨fun _ h => h, .refl, fun p hp => R1.z.m p hp, fun a ps h => R1.z.m2 a ps h⟩, fun _ h => h, rfl, fun i d h => ?_, fun i o h => ?_, fun i j o u p h => ?_⟩, hF, fun v' G' H' as' r' S' R' rr' hf q' => ?_, lk_no⟩
    · match i, h with
      | 0, h => cases h; exact ⟨_, rfl, rp⟩
      | i + 1, h => simp at h
    · match i, h with
      | 0, h => cases h
      | i + 1, h => simp at h
    · match i, h with
      | 0, h => cases h
      | i + 1, h => simp at h
    · obtain ⟨n, er, n0, n1, q2⟩ := q'
      subst er
      cases rr' with
      | dat z =>
        cases z
        have R3 := R1.over S' (fun a ha => R'.bh a ha) R'.gh R'.tb
        exact ⟨n, rfl, n0, n1, k _ G' H' ρ1 _ (S1.trans (S'.weak R1.bh)) R3 (.dat (.int _)) q2⟩
theorem de_lenO {k : Nat} {ps : List Str} {F : Fd} (M : Mth X.prog X.w X.cx.K X.T X.mg X.base k C "__len__" ps F) (hr : Room (k + 1) X.A) (hgd : X.A.guards = some []) (ml : X.mg "len" = none) (he : DE X e te we) (hps : ps.length = 1 := by rfl) (gl : Gl X "len" := by rfl)
    (st : starEach [e] X.env = (false, eval e X.env) :: starEach [] X.env := by rfl) : DE X (.Call (.Name "len" p) [e] [] pos) (tLenO X.cx.K X.T C F te) (wLenO C F we) := ⟨pe_lenO M hps hr hgd gl ml he.pe st, we_lenO (K := X.K) he.we⟩
end
end DL

set_option Elab.async false
set_option linter.all false
set_option maxRecDepth 100000
set_option maxHeartbeats 2000000
namespace DL
open PySem L2 PySem.Spec PyProof.Rows
section
variable {X : CxT} {K : KT} {e o : Expr} {te to : TE} {we wo : We} {apos pos p : Pos} {x : Str}
/-! ### texts: split, isascii, isdigit, int -/
def wSplit (wo we : We) : We := fun ρ Q => wo ρ fun r ρ1 => match r with
  | .dat (.str a) => we ρ1 fun r2 ρ2 => match r2 with
    | .dat (.str b) => (b.length == 0) = false ∧ a.length + 2 ≤ sizeLine ∧ Q (.own (.lst ((Txt.split a b).map PD.str))) ρ2
    | _ => False
  | _ => False
theorem we_split (ho : WE K to wo) (he : WE K te we) : WE K (tM1 (fun x xs H Q => ∃ a b, x = .str a ∧ xs = [.str b] ∧ (b.length == 0) = false ∧ a.length + 2 ≤ sizeLine ∧ rNewStrs (Txt.split a b) H Q) to te) (wSplit wo we) := fun B G H σ ρ Q QV R q k =>
  ho B G H σ ρ _ _ R q fun v G1 H1 ρ1 r S1 R1 rr1 q1 => by
    match r, rr1, q1 with
    | .dat (.str a), .dat rv, q1 =>
      cases rv
      refine ⟨⟨a, rfl⟩, he B G1 H1 σ ρ1 _ _ R1 q1 fun y G2 H2 ρ2 r2 S2 R2 rr2 q2 => ?_⟩
      match r2, rr2, q2 with
      | .dat (.str b), .dat ry, q2 =>
        cases ry
        refine ⟨a, b, rfl, rfl, q2.1, q2.2.1, fun n hn => ?_⟩
        exact Gv.new (K := K) (Q := fun r => Q r ρ2) (fun v G' H' r S3 R3 rr3 q3 => k v G' H' ρ2 r ((S1.trans S2).trans S3) R3 rr3 q3) R2 hn (.lst (rp_strs _)) q2.2.2
theorem de_split (ho : DE X o to wo) (he : DE X e te we) (hs : starEach [e] X.env = [(false, eval e X.env)] := by rfl) (hbase : attributeBase o "split" X.env (eval o X.env) = eval o X.env := by rfl) (hline : (apos.endLine == pos.line) = true := by rfl) :
    DE X (.Call (.Attribute o "split" apos) [e] [] pos) (tM1 (fun x xs H Q => ∃ a b, x = .str a ∧ xs = [.str b] ∧ (b.length == 0) = false ∧ a.length + 2 ≤ sizeLine ∧ rNewStrs (Txt.split a b) H Q) to te) (wSplit wo we) := ⟨pe_split ho.pe he.pe hs hbase hline, we_split (K := X.K) ho.we he.we⟩
def wStrP (g : Str → Bool) (wo : We) : We := fun ρ Q => wo ρ fun r ρ1 => match r with
  | .dat (.str a) => Q (.dat (.bl (g a))) ρ1
  | _ => False
theorem we_strP {g : Str → Bool} (ho : WE K to wo) : WE K (tM0 (fun x xs H Q => ∃ a, x = .str a ∧ xs = [] ∧ True ∧ Q (.bl (g a)) H) to) (wStrP g wo) := fun B G H σ ρ Q QV R q k =>
  ho B G H σ ρ _ _ R q fun v G1 H1 ρ1 r S1 R1 rr1 q1 => by
    match r, rr1, q1 with
    | .dat (.str a), .dat rv, q1 =>
      cases rv
      exact ⟨⟨a, rfl⟩, a, rfl, rfl, trivial, k _ G1 H1 ρ1 _ S1 R1 (.dat (.bl _)) q1⟩
theorem de_isdigit (ho : DE X o to wo) (hbase : attributeBase o "isdigit" X.env (eval o X.env) = eval o X.env := by rfl) (hline : (apos.endLine == pos.line) = true := by rfl) :
    DE X (.Call (.Attribute o "isdigit" apos) [] [] pos) (tM0 (fun x xs H Q => ∃ a, x = .str a ∧ xs = [] ∧ True ∧ Q (.bl (Txt.isdigit a)) H) to) (wStrP Txt.isdigit wo) := ⟨pe_m0 PySem.F.slot_str_isdigit PySem.F.type_str_isdigit mt_isdigit ho.pe hbase hline, we_strP (K := X.K) ho.we⟩
theorem de_isascii (ho : DE X o to wo) (hbase : attributeBase o "isascii" X.env (eval o X.env) = eval o X.env := by rfl) (hline : (apos.endLine == pos.line) = true := by rfl) :
    DE X (.Call (.Attribute o "isascii" apos) [] [] pos) (tM0 (fun x xs H Q => ∃ a, x = .str a ∧ xs = [] ∧ True ∧ Q (.bl (Txt.isascii a)) H) to) (wStrP Txt.isascii wo) := ⟨pe_m0 PySem.F.slot_str_isascii PySem.F.type_str_isascii mt_isascii ho.pe hbase hline, we_strP (K := X.K) ho.we⟩
def dIntS : Dn := fun ds k => match ds with
  | [.str a] => ok (PySem.intText? a) fun n => a.length ≤ 640 ∧ k (.dat (.int n))
  | _ => False
theorem db_intS : DB X (.type "int") (fun xs H Q => ∃ a n, xs = [.str a] ∧ PySem.intText? a = some n ∧ a.length ≤ 640 ∧ Q (.int n) H) dIntS := by
  refine ⟨call_int_str, fun B G H σ ρ xs ds Q QV R hv q k => ?_⟩
  match ds, hv, q with
  | [.str a], .cons h .nil, q =>
    obtain ⟨n, e, hl, q⟩ := ok_some q
    exact ⟨a, n, by rw [h.str], e, hl, k.dat R (.int _) q⟩
/-! ### enumerate(xs, start=c), xs a list -/
def enumFrom (c : Nat) (ds : List PD) : List PD := ds.mapIdx fun i d => .tup [.int ((i + c : Nat) : Int), d]
def IteS (K : PySem.W.Frag) (a : Addr) (c : Nat) : It :=
  ⟨fun i H => ∃ (xs : List V) (x : V), SqL K H a xs ∧ xs[i]? = some x, fun i H v H' => ∃ t x, v = .ref t ∧ H t = none ∧ H' = upd H t (.tup [.int ((i + c : Nat) : Int), x]) ∧ ∀ xs, SqL K H a xs → xs[i]? = some x, fun i H => ∃ xs : List V, SqL K H a xs ∧ xs.length ≤ i⟩
def EnStS (a e it : Addr) (c : Nat) (i : Nat) (h : Heap) : Prop := (∃ old, IsEnum h e it ((i + c : Nat) : Int) old) ∧ h.IsListIter it a i ∧ e ≠ it ∧ e ≠ a ∧ a ≠ it
theorem draws_endL {prog : Program} {w : World} {A : Around} (hh : A.handled = none) (it t : Addr) (items : Array Value) (i : Nat) (hi : items[i]? = none) (hne : t ≠ it) :
    Draws prog w A it [it, t] i (fun _ _ => True) (fun j h => j = i ∧ h.IsListIter it t i ∧ h.IsList t items) where
  live := fun _ _ st => let ⟨o, ho, _⟩ := st.2.1; ⟨o, ho⟩
  frame := fun _ _ _ st hk => ⟨st.1, st.2.1.at fun o e => hk it (by simp) o e, let ⟨o, ho, r⟩ := st.2.2; ⟨o, hk t (by simp) o ho, r⟩⟩
  item := fun j s Q E hj st hQ => absurd st.1 (by omega)
  done := fun s Q E st hE => wpAny_nextOf_list_end hh st.2.1 st.2.2 hi hE
end
end DL
namespace DL
open PySem L2 PySem.Spec PyProof.Rows
section
variable {M : Model} {A : Around} {E : Value → Shared → Prop} {s : Shared} {env : PySem.Env}
theorem callWith_type_kwB {pos : Pos} {T : String} {first : List Value} {args : List (Bool × Sem Value)} {keywords : List (Option Str × Sem Value)} {Q : Value → Shared → Prop}
    (hplain : args.any (·.1) = false) (hkw : keywords.any (·.1.isNone) = false)
    (h : wpAny M A (evalArgs (.type T) true args keywords) (fun a s₁ => wpAny M A (call (.type T) (first ++ a.pos) a.kw) Q E s₁) E s) :
    wpAny M A (callWith pos (.type T) first args keywords) Q E s := by
  unfold callWith
  refine wpAny_bind (wpAny_holding (wpAny_mono h (fun a s₁ h₁ => wpAny_bind (wpAny_standAt ?_)) fun _ _ x => x))
  simp only [hplain, hkw, Bool.or_false]
  refine wpAny_bind (wpAny_pure ?_)
  exact wpAny_bind (wpAny_mono h₁ (fun r s₂ hr => wpAny_bind (wpAny_holding (wpAny_point (wpAny_pure hr)))) fun _ _ x => x)
theorem callWith_typeKw {pos : Pos} {T : String} {e : Expr} {rest : List Expr} {kws : List Keyword} {Q : Value → Shared → Prop}
    (h : wpAny M A (spliced (backTo pos (starEach (e :: rest) env))) (fun vs s₁ => wpAny M A (evalAll ((backToKw pos (keywordEach kws env)).map (·.2)))
      (fun kvs s₂ => wpAny M A (call (.type T) vs (((backToKw pos (keywordEach kws env)).filterMap (·.1)).zip kvs)) Q E s₂) E s₁) E s)
    (he : backTo pos (starEach (e :: rest) env) = (false, eval e env) :: backTo pos (starEach rest env) := by rfl)
    (hplain : (backTo pos (starEach (e :: rest) env)).any (·.1) = false := by rfl)
    (hall : (backToKw pos (keywordEach kws env)).all (·.1.isSome) = true := by rfl)
    (hkw : (backToKw pos (keywordEach kws env)).any (·.1.isNone) = false := by rfl) :
    wpAny M A (callWith pos (.type T) [] (backTo pos (starEach (e :: rest) env)) (backToKw pos (keywordEach kws env))) Q E s := by
  refine callWith_type_kwB hplain hkw ?_
  rw [he] at h ⊢
  exact evalArgs_kwB hall h
end
theorem turn_enS {P : Program} {w : World} {K : PySem.W.Frag} {elts : List Expr} {kk : Nat} {tpos : Pos} (a e it : Addr) (c : Nat) : Turn P w K (.Tuple elts kk tpos) (IteS K a c) [e, it] e (EnStS a e it c) where
  mem := by simp
  obj := fun i h st b hb => by
    obtain ⟨⟨old, he⟩, ⟨o, ho, hc, hd⟩, _⟩ := st
    rcases (show b = e ∨ b = it by simpa using hb) with rfl | rfl
    · exact ⟨_, he, fun v q => nomatch q⟩
    · exact ⟨o, ho, fun v q => by rw [hd] at q; cases q⟩
  keep := fun i h h' st k => let ⟨⟨old, he⟩, hi, hn⟩ := st; ⟨⟨old, k e (by simp) _ he⟩, hi.at fun o q => k it (by simp) o q, hn⟩
  item := by
    intro X hP hw hK hc i pins s σ H E I hf st hg
    subst hP hw hK
    obtain ⟨⟨old, he⟩, hit, hne, hea, hai⟩ := st
    obtain ⟨xs, x, hq, hx⟩ := hg
    obtain ⟨its, rv, lp, _⟩ := I.list hq
    obtain ⟨u, hu, ru⟩ := rv.get hx
    have hus : its.toArray[i]? = some u := by simpa using hu
    have hlt : i < its.toArray.size := (Array.getElem?_eq_some_iff.mp hus).1
    have hel : e < s.heap.objs.size := Heap.lt_size he
    have hil : it < s.heap.objs.size := by obtain ⟨_, q, _⟩ := hit; exact Heap.lt_size q
    have D : Draws X.prog X.w X.A.in1 it [it, a] its.toArray.size (fun i v => its.toArray[i]? = some v) (fun i h => h.IsListIter it a i ∧ h.IsList a its.toArray) := Draws.list (show X.A.in1.handled = none from I.ok.hd hc) it a hai its.toArray
    refine PySem.wpAny_pyNext_enum_itemC D he ⟨hit, lp.isList⟩ hlt hne (by simp [hne, hea]) fun x' h' tk hx' ho hst hT hsz hk => ?_
    have ex : x' = u := by have := hx'.symm.trans hus; exact Option.some.inj this
    subst ex
    refine ⟨_, rfl, wpAny_letOwnedTupleGo_enum (s := { s with heap := h', toks := tk + 1 }) ho fun h'' he' sb => ?_⟩
    have hT2 : h''.get? s.heap.objs.size = some { cls := .type "tuple", data := .seq #[.int ((i + c : Nat) : Int) tk, x'] } := (sb.2 _ (Nat.ne_of_gt hel)).trans hT
    have new : ObjOk X.prog X.w (upd H s.heap.objs.size (.tup [.int ((i + c : Nat) : Int), x])) h'' s.heap.objs.size (.tup [.int ((i + c : Nat) : Int), x]) := ⟨by show 2 ≤ sizeLine; decide, [.int ((i + c : Nat) : Int) tk, x'], .cons ⟨_, rfl⟩ (.cons ru .nil), ⟨_, hT2, rfl, _, rfl⟩⟩
    have I1 : Inv X pins σ (upd H s.heap.objs.size (.tup [.int ((i + c : Nat) : Int), x])) { s with heap := h'', toks := tk + 1 } :=
      I.turnedNew (t' := tk + 1) (ch := [e, it]) (fun b ob hb q => (sb.2 b (fun z => hb (by simp [z]))).trans (hk b ob (fun z => hb (by simp [z])) (fun z => hb (by simp [z])) q)) hf (Nat.le_refl _) new
    have e1 : ((i + 1 + c : Nat) : Int) = ((i + c : Nat) : Int) + 1 := by omega
    refine ⟨.ref s.heap.objs.size, _, I1, rfl, ⟨_, x, rfl, I.hok.fresh (Nat.le_refl _), rfl, fun ys hy => by rw [I.list_inj hy hq]; exact hx⟩, ⟨⟨x', by rw [e1]; exact he'⟩, hst.1.at fun o q => (sb.2 it (Ne.symm hne)).trans q, hne, hea, hai⟩, fun b hb => ?_⟩
    have hbl : b < s.heap.objs.size := by rcases (show b = e ∨ b = it by simpa using hb) with rfl | rfl <;> assumption
    rw [upd_ne (Nat.ne_of_lt hbl)]; exact (hf b hb).1
  done := by
    intro X hP hw hK hc i pins s σ H E I hf st hg
    subst hP hw hK
    obtain ⟨⟨old, he⟩, hit, hne, hea, hai⟩ := st
    obtain ⟨xs, hq, hx⟩ := hg
    obtain ⟨its, rv, lp, _⟩ := I.list hq
    obtain ⟨f0, f1, f2, f3, f4, f5⟩ := hf it (by simp)
    have hl := rv.length
    have D := draws_endL (prog := X.prog) (w := X.w) (A := X.A.in1) (show X.A.in1.handled = none from I.ok.hd hc) it a its.toArray i (by simp; omega) hai
    exact wpAny_pyNext_enum_endD D he ⟨rfl, hit, lp.isList⟩ fun h' eb => ⟨rfl, I.turned (t' := s.toks) (fun b o hb q => eb b o hb q) f0 f1 f3 f4 f5⟩
  self := fun A i s Q E st h => let ⟨⟨_, he⟩, _⟩ := st; wpAny_pyIter_enum he h
def iEnumS (K : PySem.W.Frag) (c : Nat) (ta : TA) : TI := fun σ H R => ta σ H fun vs H1 => ∃ a xs, vs = [.ref a] ∧ SqL K H1 a xs ∧ R (IteS K a c) H1
theorem pi_enumS {X : Cx} {e : Expr} {ta : TA} {p pos tpos kp : Pos} {j : Nat} {p2 : Pos} {elts : List Expr} {kk c : Nat} (hm : X.mg "enumerate" = none) (ha : PA X [e] ta) (hc : c < 2 ^ 62) (hg : Gl X "enumerate" := by rfl)
    (hs : backTo pos (starEach [e] X.env) = (false, eval e X.env) :: backTo pos (starEach [] X.env) := by rfl) (hpl : (backTo pos (starEach [e] X.env)).any (·.1) = false := by rfl) :
    PI X (.Tuple elts kk tpos) (.Call (.Name "enumerate" p) [e] [⟨some "start", .Constant (.int (c : Int)) j p2, kp⟩] pos) (iEnumS X.K c ta) := by
  refine ⟨fun pins s σ H R I hh => ?_⟩
  refine wpAny_Call_Name_kw (ld_blt I hg hm boot_enumerate (callWith_typeKw (thn (ha.run pos pins s σ H _ I hh) fun us s1 ⟨vs, H1, I1, r1, a, xs, ev, hq, q⟩ => ?_) hs hpl))
  subst ev
  cases r1 with
  | cons r rr =>
    cases rr; cases r
    refine kws_cons (thn ((pe_int (X := X) (i := (c : Int)) (j := j) (pos := p2)).run pins s1 σ H1 (fun v H' => v = .int (c : Int) ∧ H' = H1) I1 ⟨rfl, rfl⟩) fun u s2 ⟨v, H2, I2, ru, ev, eH⟩ => kws_nil ?_)
    subst ev eH
    obtain ⟨t, rfl⟩ := ru
    obtain ⟨its2, rv2, lp2, _⟩ := I2.list hq
    have al2 : a < s2.heap.objs.size := by obtain ⟨_, _, q, _⟩ := id lp2; exact Heap.lt_size q
    have fp2 : ∀ b ∈ [s2.heap.objs.size + 1, s2.heap.objs.size], s2.heap.objs.size ≤ b := fun b hb => by rcases (show b = s2.heap.objs.size + 1 ∨ b = s2.heap.objs.size by simpa using hb) with rfl | rfl <;> omega
    refine enum_begins_start (begins_list a its2.toArray) lp2.isList (by omega) (by omega) fun h' he ho hz hk => wpAny_pyIter_enum he ⟨s2.heap.objs.size + 1, [s2.heap.objs.size + 1, s2.heap.objs.size], _, _, H2, rfl, I2.kept (t' := s2.toks) hk, turn_enS a (s2.heap.objs.size + 1) s2.heap.objs.size c, ⟨⟨.none, by rw [Nat.zero_add]; exact he⟩, ⟨_, ho, rfl, rfl⟩, Nat.succ_ne_self _, (Nat.ne_of_lt (Nat.lt_succ_of_lt al2)).symm, Nat.ne_of_lt al2⟩, fun b hb => I2.fpOk (fp2 b hb) (I2.hok.fresh (fp2 b hb)), q⟩
section
variable {K : KT}
theorem it_enumS {G0 : Hp} {q : Addr} {c : Nat} {vs : List V} {ds : List PD} (hG : ∀ G H, Ex G0 G → Ex G H → SqL K H q vs) (r : RpAll K G0 vs ds) : ItOk K G0 (IteS K q c) (enumFrom c ds) := fun B σ ρ G H e R => by
  have hq := hG G H e R.gh
  have hl : (enumFrom c ds).length = ds.length := by unfold enumFrom; rw [List.length_mapIdx]
  refine ⟨fun i hi => ⟨vs, hq, by rw [r.length, ← hl]; exact hi⟩, fun i d hd => ?_⟩
  unfold enumFrom at hd
  rw [List.getElem?_mapIdx] at hd
  cases hx : ds[i]? with
  | none => rw [hx] at hd; cases hd
  | some x =>
    rw [hx] at hd
    cases hd
    obtain ⟨v, hv, rv⟩ := r.get hx
    refine ⟨⟨vs, v, hq, hv⟩, fun y H' ⟨t, w, ey, ht, eH, hw⟩ => ?_⟩
    have := hw vs hq
    rw [hv] at this; cases this
    subst ey; subst eH
    exact fresh_tup R ht (.cons (.int _) (.cons (rv.mono e) .nil))
def wEnumS (c : Nat) (wa : Wa) : Wi := fun ρ Q => wa ρ fun rs ρ1 => frz rs ρ1 fun ds ρ2 => match ds with
  | [.lst xs] => Q (enumFrom c xs) ρ2
  | _ => False
theorem wi_enumS {c : Nat} {t : TA} {wa : Wa} (h : WAa K t wa) : WIi K (iEnumS K c t) (wEnumS c wa) := fun B G H σ ρ Q QJ R q k =>
  h B G H σ ρ _ _ R q fun vs G1 H1 ρ1 rs S1 R1 rr q1 => by
    obtain ⟨⟨ds, ρ2⟩, e, q1⟩ := ok_some q1
    obtain ⟨G2, S2, R2, ra⟩ := frz_all R1 rr e
    match ds, ra, q1 with
    | [.lst xs], ra, q1 =>
      obtain ⟨w, ew, rw'⟩ := ra.one
      cases ew
      cases rw' with
      | lst hg r => exact ⟨_, _, rfl, SqL.of (R2.gh _ _ hg nt_lst), k _ G2 H1 ρ2 _ (S1.trans S2) R2 (it_enumS (fun G' H' e e' => SqL.of (e' _ _ (e _ _ hg nt_lst) nt_lst)) r) q1⟩
theorem di_enumS {X : CxT} {e : Expr} {t : TA} {wa : Wa} {elts : List Expr} {kk c j : Nat} {p p2 kp pos tpos : Pos} (hm : X.mg "enumerate" = none) (ha : DA X [e] t wa) (hc : c < 2 ^ 62 := by decide) (hg : Gl X "enumerate" := by rfl)
    (hs : backTo pos (starEach [e] X.env) = (false, eval e X.env) :: backTo pos (starEach [] X.env) := by rfl) (hpl : (backTo pos (starEach [e] X.env)).any (·.1) = false := by rfl) :
    DI X (.Tuple elts kk tpos) (.Call (.Name "enumerate" p) [e] [⟨some "start", .Constant (.int (c : Int)) j p2, kp⟩] pos) (iEnumS X.K c t) (wEnumS c wa) := ⟨pi_enumS hm ha.pa hc hg hs hpl, wi_enumS (K := X.K) ha.wa⟩
end
end DL

set_option Elab.async false
set_option linter.all false
set_option maxRecDepth 100000
set_option maxHeartbeats 2000000
namespace DL
open PySem PyProof.Rows L2
/-! ### len(set(xs)), xs a tuple of ints -/
theorem sub_len : ∀ {ms ns : List Int}, ms.Nodup → (∀ x ∈ ms, x ∈ ns) → ms.length ≤ ns.length ∧ (ms.length = ns.length → ns.Nodup)
  | [], ns, _, _ => ⟨Nat.zero_le _, fun h => by
      have : ns = [] := List.length_eq_zero_iff.mp h.symm
      rw [this]; exact List.nodup_nil⟩
  | m :: ms, ns, nd, h => by
    obtain ⟨n1, n2⟩ := List.nodup_cons.mp nd
    have hm : m ∈ ns := h m List.mem_cons_self
    have hp := List.perm_cons_erase hm
    have hl := hp.length_eq
    rw [List.length_cons] at hl
    have hs : ∀ x ∈ ms, x ∈ ns.erase m := fun x hx => by
      have : x ≠ m := fun z => n1 (z ▸ hx)
      exact (List.mem_erase_of_ne this).mpr (h x (List.mem_cons_of_mem _ hx))
    obtain ⟨i1, i2⟩ := sub_len n2 hs
    rw [List.length_cons]
    refine ⟨by omega, fun e => ?_⟩
    have i3 := i2 (by omega)
    refine (hp.nodup_iff).mpr (List.nodup_cons.mpr ⟨fun hmm => ?_, i3⟩)
    have hs2 : ∀ x ∈ ms, x ∈ (ns.erase m).erase m := fun x hx => by
      have : x ≠ m := fun z => n1 (z ▸ hx)
      exact (List.mem_erase_of_ne this).mpr (hs x hx)
    have i4 := (sub_len n2 hs2).1
    have hl2 := (List.perm_cons_erase hmm).length_eq
    rw [List.length_cons] at hl2
    omega
section
variable {X : CxT} {K : KT} {T : Nat → Bool}
def tLenSetT (KF : PySem.W.Frag) (ta : TE) : TE := fun σ H Q =>
  ta σ H fun x H1 => ∃ (a : Addr) (ns : List Int), x = .ref a ∧ SqT KF H1 a (ns.map V.int) ∧ ns.length ≤ 4000 ∧ ∀ c : Nat, (c = ns.length ↔ ns.Nodup) → Q (.int c) H1
theorem pe_lenSetT {Z : Cx} {e : Expr} {te : TE} {p1 p2 q1 q2 : Pos} (gl : Gl Z "len") (ml : Z.mg "len" = none) (gs : Gl Z "set") (ms : Z.mg "set" = none) (he : PE Z e te) (hc : Z.calm = true := by rfl)
    (st : starEach [e] Z.env = (false, eval e Z.env) :: starEach [] Z.env := by rfl) :
    PE Z (.Call (.Name "len" p1) [.Call (.Name "set" p2) [e] [] q2] [] q1) (tLenSetT Z.K te) := by
  constructor
  intro pins s σ H Q I h
  refine Call_ (ld_blt I gl ml boot_len ?_)
  refine PyProof.Rows.callWith_builtin1 (PyProof.Rows.args_cons ?_ rfl) rfl rfl
  refine Call_ (ld_blt I gs ms boot_set ?_)
  have inner := he.run pins s σ H _ I h
  refine PyProof.Rows.callWith_type1 (PyProof.Rows.args_cons (thn inner fun u s1 ⟨x, H1, I1, rx, rest⟩ => PyProof.Rows.args_nil ?_) st) st rfl
  obtain ⟨a, ns, ex, hl, n4, rest⟩ := rest
  subst ex
  cases rx
  obtain ⟨us, vu, il, _⟩ := I1.tuple hl
  have ia : ∀ {ns : List Int} {us : List Value}, Vals (ns.map V.int) us → PyProof.Rows.IntsAre us ns := fun {ns} => by
    induction ns with
    | nil => intro us h; cases h; exact .nil
    | cons n ns ih =>
      intro us h
      cases h with
      | cons r t =>
        obtain ⟨k, rfl⟩ := r
        exact .cons n k (ih t)
  refine call_set_tupI ns (I1.ok.hd hc) il (by simpa using ia vu) (by unfold scanBound; omega) fun h2 tk c hS hcl hk => ?_
  refine PyProof.Rows.args_nil ?_
  obtain ⟨ob, es, ep, t, g1, g2, g3, g4, g5, g6, g7, g8, g9, _⟩ := hS
  have I2 : Inv Z pins σ H1 { s1 with heap := h2, toks := tk } := I1.kept fun b o e => hk b o e
  refine call_len_set g1 g2 g3 g8 (by rw [g9]; omega) ?_
  refine ⟨.int (c : Nat), H1, I2.tok _, ⟨_, by rw [g9]⟩, rest c ?_⟩
  have hlen : (es.toList.map keyOf).length = c := by rw [List.length_map, Array.length_toList, g9]
  have m1 : ∀ x ∈ es.toList.map keyOf, x ∈ ns := fun x hx => of_decide_eq_true ((g6 x).mpr hx)
  have m2 : ∀ x ∈ ns, x ∈ es.toList.map keyOf := fun x hx => (g6 x).mp (decide_eq_true hx)
  obtain ⟨j1, j2⟩ := sub_len g5 m1
  refine ⟨fun e => j2 (hlen.trans e), fun nd => ?_⟩
  have := (sub_len nd m2).1
  omega
def wLenSetT (wk : We) : We := fun ρ Q => wk ρ fun r ρ1 => look r ρ1 fun d => match d with
  | .tup xs => ok (intsOf xs) fun ns => ns.length ≤ 4000 ∧ ∀ c : Nat, (c = ns.length ↔ ns.Nodup) → Q (.dat (.int (c : Nat))) ρ1
  | _ => False
theorem we_lenSetT {ty : TE} {wk : We} (h : WE K ty wk) : WE K (tLenSetT K.F ty) (wLenSetT wk) := fun B G H σ ρ Q QV R q k =>
  h B G H σ ρ _ _ R q fun y G1 H1 ρ1 r S1 R1 rr q1 => by
    obtain ⟨d, ed, q1⟩ := ok_some q1
    match d, ed, q1 with
    | .tup xs, ed, q1 =>
      obtain ⟨ns, en, n4, q1⟩ := ok_some q1
      obtain ⟨a, us, rfl, ha, ra⟩ := (rr.vw R1 ed).tup R1.gh
      rw [intsOf_eq en] at ra
      rw [ra.ints] at ha
      exact ⟨a, ns, rfl, ha, n4, fun c hc => k _ G1 H1 ρ1 _ S1 R1 (.dat (.int _)) (q1 c hc)⟩
theorem de_lenSetT {e : Expr} {te : TE} {we : We} {p1 p2 q1 q2 : Pos} (ml : X.mg "len" = none) (ms : X.mg "set" = none) (he : DE X e te we) (gl : Gl X "len" := by rfl) (gs : Gl X "set" := by rfl) (hc : X.calm = true := by rfl)
    (st : starEach [e] X.env = (false, eval e X.env) :: starEach [] X.env := by rfl) :
    DE X (.Call (.Name "len" p1) [.Call (.Name "set" p2) [e] [] q2] [] q1) (tLenSetT X.cx.K te) (wLenSetT we) := ⟨pe_lenSetT gl ml gs ms he.pe hc st, we_lenSetT (K := X.K) he.we⟩
end
end DL

set_option Elab.async false
set_option linter.all false
set_option maxRecDepth 100000
set_option maxHeartbeats 2000000
namespace DL
open PySem PyProof.Rows L2
/-! ### rules for the inside of a comprehension: the written part by its own name -/
section
variable {X : CxT} {e o : Expr} {te to : TE} {we wo : We} {pos apos : Pos} {C : Addr} {f : Str}
theorem de_joinK {KF : PySem.W.Frag} (ho : DE X o to wo) (he : DE X e te we) (hK : X.cx.K = KF := by rfl) (hs : starEach [e] X.env = [(false, eval e X.env)] := by rfl) (hbase : attributeBase o "join" X.env (eval o X.env) = eval o X.env := by rfl) (hline : (apos.endLine == pos.line) = true := by rfl) :
    DE X (.Call (.Attribute o "join" apos) [e] [] pos) (tM1 (rJoin KF) to te) (wJoin wo we) := by
  subst hK
  exact de_join ho he hs hbase hline
theorem de_fldK {KF : PySem.W.Frag} (hC : Cls KF C) (hn : NoAttr KF C f) (h : DE X e te we) (hK : X.cx.K = KF := by rfl) (hb : attributeBase e f X.env (eval e X.env) = eval e X.env := by rfl) : DE X (.Attribute e f pos) (tFld KF te f) (wFld C f we) := by
  subst hK
  exact de_fld hC hn h hb
end
/-! ### an own class made: all by its own name -/
section
variable {X : CxT} {e : Expr} {es : List Expr} {t : TA} {wa : Wa} {pos p : Pos} {C : Addr} {x : Str}
theorem de_makeW {KF : PySem.W.Frag} {Ts : List (Addr × Str)} {W : WX} {Ξ : Xp} {k : Nat} {f1 f2 : Str} {F : Fd} (M : Mkr X.prog X.w KF Ts X.mg X.base k x C f1 f2 F) (hr : Room (k + 1) X.A) (hgd : X.A.guards = some []) (ha : DA X (e :: es) t wa) (hK : X.cx.K = KF := by rfl) (hT : X.T = Ts := by rfl) (hW : X.W = W := by rfl) (hΞ : X.Ξ = Ξ := by rfl) (hg : Gl X x := by rfl)
    (hdb : (x == ("__debug__" : Str)) = false := by decide) (he : starEach (e :: es) X.env = (false, eval e X.env) :: starEach es X.env := by rfl) (hpl : (backTo pos (starEach es X.env)).any (·.1) = false := by rfl) :
    DE X (.Call (.Name x p) (e :: es) [] pos) (tMakeW C (spIni KF Ts C f1 f2 F) W t) (wMake C f1 f2 F Ξ wa) := by
  subst hK hT hW hΞ
  exact de_make M hr hgd ha hg hdb he hpl
end
/-- a lambda handed over: all by its own name -/
theorem de_lamK {X : CxT} {KF : PySem.W.Frag} {Ts : List (Addr × Str)} {x a : Str} {c P : Addr} {k : Nat} {params : Arguments} {body : Expr} {scope : Scope} {t : XK → TE} {wl : Xp → We} {F : Lm1 → (Rz → Prop) → Prop} {p lpos pos : Pos} (Hd : Hrd X.prog X.w KF Ts X.mg X.base x a F) (hg : Gl X x)
    (TB : LamX.TabB X.base X.mg c P) (hcode : X.env.code = .ref c) (hmT : (P, X.env.qual ++ "<lambda>") ∈ Ts) (hu : ∀ p ∈ Ts, p.1 = P → p.2 = X.env.qual ++ "<lambda>") (hr : Room (k + 2) X.A) (hgd : X.A.guards = some []) (L : LamX.LamS X.env.scope scope) (hdef : defaultsOf params X.env = ([], []))
    (hbind : ∀ (q : Str) (cl : List (Str × Addr)) (pm cv ctv : Value), bindArgs (PySem.W.kla_fn "<lambda>" q params body scope cl pm cv ctv) ⟨[], []⟩ = pure [])
    (hbody : ∀ (f c' : Addr) (A : Around) (outer : List PySem.Env) (s : Shared) (H : Hp) (E : XK) (B0 : Addr → Prop) (G0 H0 : Hp) (Ξ : Xp) (lk : Lk X.cx.K B0 G0 H0 Ξ (fun cls d _ H' => E cls d H')), Room k (A.deeper (LamX.lamEnv X.cx scope s.heap.objs.size f c')) → A.guards = some [] →
      DE (lamT X A outer s H E scope f c' B0 G0 H0 Ξ lk) body (t E) (wl Ξ)) (hK : X.cx.K = KF := by rfl) (hT : X.T = Ts := by rfl)
    (hdb : (x == ("__debug__" : Str)) = false := by decide) (hd : (a == ("__debug__" : Str)) = false := by decide) (hcd : (a == ("__classdict__" : Str)) = false := by decide) :
    DE X (.Call (.Name x p) [.Lambda params body scope lpos] [] pos) (LamX.tLam Ts (TTh KF Ts F) t) (wLam F wl) := by
  subst hK hT
  exact de_lam Hd hg TB hcode hmT hu hr hgd L hdef hbind hbody hdb hd hcd
section
variable {X : CxT} {te : TE} {we : We} {pos p : Pos} {x : Str} {D fI : Addr} {e : Expr}
theorem de_isEK {KF : PySem.W.Frag} {cl : Nat → Addr} {n : Nat} {kb : Nat → Bool} {p2 : Pos} {a : Expr} (hm : X.mg "isinstance" = none) (hm2 : X.mg x = some (.ref D)) (hk : ∀ i, i < n → ErrC KF (cl i) fI ∧ PySem.W.kitOne KF (.ref (cl i)) (.ref D) = some (kb i)) (ha : DE X a te we) (hK : X.cx.K = KF := by rfl) (hg : Gl X "isinstance" := by rfl) (hg2 : Gl X x := by rfl) (hdb : (x == ("__debug__" : Str)) = false := by decide)
    (hs : starEach (a :: [.Name x p2]) X.env = (false, eval a X.env) :: starEach [.Name x p2] X.env := by rfl) (hpl : (backTo pos (starEach [.Name x p2] X.env)).any (·.1) = false := by rfl) : DE X (.Call (.Name "isinstance" p) [a, .Name x p2] [] pos) (tIsE KF fI (.ref D) (.ref D) te) (wIsE cl n kb we) := by
  subst hK
  exact de_isE hm hm2 hk ha hg hg2 hdb hs hpl
theorem de_isEBK {KF : PySem.W.Frag} {Ty : String} {cl : Nat → Addr} {n : Nat} {kb : Nat → Bool} {p2 : Pos} {a : Expr} (hm : X.mg "isinstance" = none) (hm2 : X.mg x = none) (hv : bootBuiltins x = some (.type Ty)) (hk : ∀ i, i < n → ErrC KF (cl i) fI ∧ PySem.W.kitOne KF (.ref (cl i)) (.type Ty) = some (kb i)) (ha : DE X a te we) (hK : X.cx.K = KF := by rfl) (hg : Gl X "isinstance" := by rfl) (hg2 : Gl X x := by rfl) (hn : x ≠ "__name__" := by decide) (hdb : (x == ("__debug__" : Str)) = false := by decide)
    (hs : starEach (a :: [.Name x p2]) X.env = (false, eval a X.env) :: starEach [.Name x p2] X.env := by rfl) (hpl : (backTo pos (starEach [.Name x p2] X.env)).any (·.1) = false := by rfl) : DE X (.Call (.Name "isinstance" p) [a, .Name x p2] [] pos) (tIsE KF fI (.type Ty) (.ty Ty) te) (wIsE cl n kb we) := by
  subst hK
  exact de_isEB hm hm2 hv hk ha hg hg2 hn hdb hs hpl
theorem de_valK {KF : PySem.W.Frag} {cl : Nat → Addr} {n : Nat} (hk : ∀ i, i < n → ErrC KF (cl i) fI) (ha : DE X e te we) (hK : X.cx.K = KF := by rfl) (hb : attributeBase e "value" X.env (eval e X.env) = eval e X.env := by rfl) : DE X (.Attribute e "value" pos) (tVal KF fI te) (wVal cl n we) := by
  subst hK
  exact de_val hk ha hb
end
/-! ### is True, is not True -/
section
variable {X : CxT} {K : KT}
def dIsB : D2 := fun x y k => match x, y with
  | .bl a, .bl b => k (.dat (.bl (decide (a = b))))
  | _, _ => False
def dNotB : D2 := fun x y k => match x, y with
  | .bl a, .bl b => k (.dat (.bl (!decide (a = b))))
  | _, _ => False
theorem dc_isB : DC X .Is (fun x y H Q => ∃ a b, x = .bl a ∧ y = .bl b ∧ Q (.bl (decide (a = b))) H) dIsB := ⟨op_is_bl, fun B G H σ ρ x y dx dy Q QV R vx vy q k => by
  match dx, dy, vx, vy, q with
  | .bl a, .bl b, vx, vy, q => exact ⟨a, b, vx.bl, vy.bl, k.dat R (.bl _) q⟩⟩
theorem dc_notB : DC X .IsNot (fun x y H Q => ∃ a b, x = .bl a ∧ y = .bl b ∧ Q (.bl (!decide (a = b))) H) dNotB := ⟨op_isnot_bl, fun B G H σ ρ x y dx dy Q QV R vx vy q k => by
  match dx, dy, vx, vy, q with
  | .bl a, .bl b, vx, vy, q => exact ⟨a, b, vx.bl, vy.bl, k.dat R (.bl _) q⟩⟩
end
end DL

set_option Elab.async false
set_option linter.all false
set_option maxRecDepth 100000
set_option maxHeartbeats 2000000
namespace DL
open PySem L2
/-! ### [a, ..] * n -/
section
variable {X : CxT} {K : KT}
def dLm : D2 := fun x y k => match x, y with
  | .lst xs, .int n => (-1000 ≤ n ∧ n ≤ 1000) ∧ xs.length ≤ 1000 ∧ k (.own (.lst (List.replicate n.toNat xs).flatten))
  | _, _ => False
theorem ok2_lm : Ok2 K rRep dLm := by
  intro B G H σ ρ x y dx dy Q QV R vx vy q k
  match dx, dy, vx, vy, q with
  | .lst ds, .int n, vx, vy, ⟨⟨n0, n1⟩, hz, q⟩ =>
    obtain ⟨a, us, rfl, ha, ra⟩ := vx.lst R.gh
    have hl := (RpAll.each ra).1
    have h1 : us.length * n.toNat ≤ 1000 * 1000 := Nat.mul_le_mul (by omega) (by omega)
    exact ⟨a, n, us, rfl, vy.int, ha, by omega, by omega, Nat.le_trans h1 (by rw [sizeLine_eq]; decide), fun p hp => k.new R hp (.lst (ra.times n.toNat)) q⟩
theorem de_lm {a b : Expr} {pos : Pos} {ta tb : TE} {wa wb : We} (ha : DE X a ta wa) (hb : DE X b tb wb) : DE X (.BinOp a .Mult b pos) (tOp rRep ta tb) (wBin dLm wa wb) := ⟨pe_op op_rep ha.pe hb.pe, we_bin ok2_lm ha.we hb.we⟩
/-- x() of a def that raises nothing -/
theorem de_cal0 {KF : PySem.W.Frag} {Ts : List (Addr × Str)} {k : Nat} {F : Fd} {x : Str} {p pos : Pos} (C : Cal X.prog X.w KF Ts X.mg X.base k x [] F) (hr : Room k X.A) (hgd : X.A.guards = some []) (hK : X.cx.K = KF := by rfl) (hT : X.T = Ts := by rfl) (hg : Gl X x := by rfl) (hdb : (x == ("__debug__" : Str)) = false := by decide) :
    DE X (.Call (.Name x p) [] [] pos) (tCallG KF Ts 0 F (fun _ _ _ _ => False) tNil) (wCall 0 F noX wNil) := by
  subst hK hT
  obtain ⟨f, fd, hm, hk, hb, F0⟩ := C.ex
  refine ⟨⟨fun pins s σ H Q I h => ?_⟩, we_call (K := X.K) lk_no wa_nil⟩
  refine wpAny_Call_Name_kw (ld_glob I hg hm ?_ hdb)
  have h : SpG X.cx.K X.T 0 F [] H Q (fun _ _ _ => False) := h
  obtain ⟨B, G, as, Q', Ξ, hl, R, hF, hk2, hx⟩ := h
  refine PySem.W.callWith_K0 I.kIn hk ?_
  have hb' := hb s [] I.kIn rfl
  refine wpAny_call (codeAny_mono (F0.run X.A X.stack s H ⟨[], []⟩ [] [] B G as Q' Ξ Q (fun _ _ _ => False) hr hgd I.env0 hb' .nil rfl R hF hk2 hx) fun r s' hq => ?_)
  match r, hq with
  | .ok (.ret u), hq => exact I.after hq
  | .ok .next, hq => exact False.elim hq
  | .ok .brk, hq => exact False.elim hq
  | .ok .cont, hq => exact False.elim hq
  | .error e, ⟨_, _, _, _, _, _, _, _, _, _, _, _, z⟩ => exact False.elim z
end
end DL

set_option Elab.async false
set_option linter.all false
set_option maxRecDepth 100000
set_option maxHeartbeats 4000000
namespace Lk
open PySem L2 DL
/-- the maker of the errors keeps its promise -/
structure Exx (P : Program) (w : World) (K : PySem.W.Frag) (mg : Str → Option Value) (base : Heap) (fI : Addr) : Prop where
  ex : ∃ fd, FnOk P w K mg base L2.CX0 1 fI fd ["self", "value"] (spErr K) ∧ Binds K fd ["self", "value"] []
theorem erc_of {P : Program} {w : World} {K : PySem.W.Frag} {mg : Str → Option Value} {base : Heap} {C fI : Addr} {x : Str} (E : Exx P w K mg base fI) (n : mg x = some (.ref C)) (T : ErrC K C fI) : Erc P w K mg base 1 x C fI := by
  obtain ⟨fd, h1, h2⟩ := E.ex
  exact ⟨fd, n, T, h1, h2⟩
theorem room66 {k : Nat} {A : Around} (hr : Room k A) : A.units + 66 < cLine := by have := hr.un; omega
def top (i : Nat) : Stmt := PySem.Challenge.pw_queueloops_k01_lines_of_no_device.main.body.getD i (.Pass ⟨0, 0, 0, 0⟩)
abbrev c_FEWEST_LANES : PD := .int 2
abbrev c_MOST_FIGURES : PD := .int 9
abbrev c_MOST_LANES : PD := .int 4
abbrev c_MOST_LENGTH : PD := .int 1000000
abbrev c_MOST_STAGES : PD := .int 6
def kb (j i : Nat) : Bool := i == j || j == 1
structure Gx (K : PySem.W.Frag) (mg : Str → Option Value) (cl : Nat → Addr) (fI : Addr) : Prop where
  b_abs : mg "abs" = none
  b_all : mg "all" = none
  b_bool : mg "bool" = none
  b_enumerate : mg "enumerate" = none
  b_int : mg "int" = none
  b_isinstance : mg "isinstance" = none
  b_len : mg "len" = none
  b_list : mg "list" = none
  b_max : mg "max" = none
  b_min : mg "min" = none
  b_range : mg "range" = none
  b_repr : mg "repr" = none
  b_set : mg "set" = none
  b_str : mg "str" = none
  b_sum : mg "sum" = none
  b_tuple : mg "tuple" = none
  ek : ∀ i, i < 2 → ErrC K (cl i) fI
  ki : ∀ j, j < 2 → ∀ i, i < 2 → PySem.W.kitOne K (.ref (cl i)) (.ref (cl j)) = some (kb j i)
  kx : ∀ i, i < 2 → PySem.W.exmOne K (.ref (cl i)) (.ref (cl 1)) = some true
  kv : ∀ i, i < 2 → PySem.W.kitOne K (.ref (cl i)) (.type "ValueError") = some true
  k_Device : Cls K (cl 2)
  na_Device_stages : NoAttr K (cl 2) "stages"
  na_Device_text : NoAttr K (cl 2) "text"
  n_BadDevice : mg "BadDevice" = some (.ref (cl 0))
  n_LoopError : mg "LoopError" = some (.ref (cl 1))
  c_FEWEST_LANES : Const K mg "FEWEST_LANES" c_FEWEST_LANES
  c_MOST_FIGURES : Const K mg "MOST_FIGURES" c_MOST_FIGURES
  c_MOST_LANES : Const K mg "MOST_LANES" c_MOST_LANES
  c_MOST_LENGTH : Const K mg "MOST_LENGTH" c_MOST_LENGTH
  c_MOST_STAGES : Const K mg "MOST_STAGES" c_MOST_STAGES

/-! _law_take -/
abbrev s__law_take : Stmt := top 19
abbrev N__law_take : List Str := ["pot", "upto", "prime", "blend", "digit"]
theorem sc__law_take : FnScope N__law_take ["pot", "upto"] (defScope s__law_take) := ⟨rfl, rfl, rfl, by decide +kernel, rfl, by decide +kernel, by decide +kernel⟩
def w__law_take (cl : Nat → Addr) (Ξ : Xp) : Ws := (wSeq (wIfS (wB (wBin (dI0 fun i j => .bl (decide (j < i))) (wBin dIx (wVar 0) (wC (.int 0))) (wC (.int 0)))) (wSeq (wSetF 4 (wBin (dI CPos fun i j => .int (i % j)) (wCB dInt (wCons (wBin dIx (wVar 0) (wC (.int 0))) wNil)) (wVar 1)))
  (wSeq (wSetIx 0 (wBin (dI CDivW fun i j => .int (i / j)) (wBin dIx (wVar 0) (wC (.int 0))) (wVar 1)) (wC (.int 0)))
  (wRet (wVar 4)))) wNext)
  (wSeq (wSetIx 0 (wBin dAdd (wBin dIx (wVar 0) (wC (.int 2))) (wC (.int 1))) (wC (.int 2)))
  (wSeq (wSetF 2 (wBin dIx (wLst (wCons (wC (.int 2147483647)) (wCons (wC (.int 2147483629)) (wCons (wC (.int 2147483587)) (wCons (wC (.int 2147483579)) (wCons (wC (.int 2147483563)) wNil)))))) (wBin (dI CPos fun i j => .int (i % j)) (wCB dInt (wCons (wBin dIx (wVar 0) (wC (.int 2))) wNil)) (wC (.int 5)))))
  (wSeq (wSetF 3 (wBin (dI CPos fun i j => .int (i % j)) (wCB dInt (wCons (wBin (dI CPowX fun i j => .int (i ^ j.toNat)) (wCB dInt (wCons (wBin dAdd (wBin dAdd (wBin dIx (wVar 0) (wC (.int 1))) (wBin (dI CMulX fun i j => .int (i * j)) (wBin (dI CMulX fun i j => .int (i * j)) (wC (.int 98287)) (wBin dIx (wVar 0) (wC (.int 2)))) (wBin dIx (wVar 0) (wC (.int 2))))) (wC (.int 444))) wNil)) (wC (.int 3))) wNil)) (wVar 2)))
  (wSeq (wSetF 3 (wBin (dI CPos fun i j => .int (i % j)) (wCB dInt (wCons (wBin (dI CMulX fun i j => .int (i * j)) (wVar 3) (wBin dAdd (wBin (dI CPos fun i j => .int (i % j)) (wCB dInt (wCons (wVar 3) wNil)) (wC (.int 10011))) (wBin (dI CMulX fun i j => .int (i * j)) (wC (.int 93)) (wBin dIx (wVar 0) (wC (.int 2)))))) wNil)) (wC (.int 2305843009213693907))))
  (wRet (wBin (dI CPos fun i j => .int (i % j)) (wCB dInt (wCons (wBin (dI CDivW fun i j => .int (i / j)) (wVar 3) (wC (.int 173))) wNil)) (wVar 1))))))))
def F__law_take (cl : Nat → Addr) : Fd := mkF (pin [0, 1]) 5 (w__law_take cl)
theorem cal__law_take {P : Program} {w : World} {K : PySem.W.Frag} {Ts : List (Addr × Str)} {mg : Str → Option Value} {base : Heap} {cl : Nat → Addr} {fI : Addr} (G : Gx K mg cl fI) (EX : Exx P w K mg base fI) (D : Dfn K mg "_law_take" s__law_take none)  : CalS P w K Ts mg base 1 "_law_take" s__law_take ["pot", "upto"] (F__law_take cl) :=
  cal_of D sc__law_take fun f cdv hcd A outer s H E B G0 Ξ lk hr hgd => ⟨_, (dss_cons (ds_if (dt_cmp dc_gt (de_ix (dv 0) de_int) de_int) (dss_cons (ds_setF rfl sc__law_take.nd rfl (by first | exact Or.inl rfl | exact Or.inr rfl) (de_mod (de_callT db_int G.b_int (by decide +kernel) (da_cons (de_ix (dv 0) de_int) da_nil)) (dv 1)))
      (dss_cons (ds_setIx (de_fdiv (de_ix (dv 0) de_int) (dv 1)) (dv 0) de_int)
      (dss_one (ds_ret (dv 4))))) dss_nil)
      (dss_cons (ds_setIx (de_add (de_ix (dv 0) de_int) de_int) (dv 0) de_int)
      (dss_cons (ds_setF rfl sc__law_take.nd rfl (by first | exact Or.inl rfl | exact Or.inr rfl) (de_ix (de_lst (da_cons de_int (da_cons de_int (da_cons de_int (da_cons de_int (da_cons de_int da_nil)))))) (de_mod (de_callT db_int G.b_int (by decide +kernel) (da_cons (de_ix (dv 0) de_int) da_nil)) de_int)))
      (dss_cons (ds_setF rfl sc__law_take.nd rfl (by first | exact Or.inl rfl | exact Or.inr rfl) (de_mod (de_callT db_int G.b_int (by decide +kernel) (da_cons (de_pow (de_callT db_int G.b_int (by decide +kernel) (da_cons (de_add (de_add (de_ix (dv 0) de_int) (de_mul (de_mul de_int (de_ix (dv 0) de_int)) (de_ix (dv 0) de_int))) de_int) da_nil)) de_int) da_nil)) (dv 2)))
      (dss_cons (ds_setF rfl sc__law_take.nd rfl (by first | exact Or.inl rfl | exact Or.inr rfl) (de_mod (de_callT db_int G.b_int (by decide +kernel) (da_cons (de_mul (dv 3) (de_add (de_mod (de_callT db_int G.b_int (by decide +kernel) (da_cons (dv 3) da_nil)) de_int) (de_mul de_int (de_ix (dv 0) de_int)))) da_nil)) de_int))
      (dss_one (ds_ret (de_mod (de_callT db_int G.b_int (by decide +kernel) (da_cons (de_fdiv (dv 3) de_int) da_nil)) (dv 1)))))))))⟩

/-! _law_device_text -/
abbrev s__law_device_text : Stmt := top 26
abbrev N__law_device_text : List Str := ["own", "some", "one"]
theorem sc__law_device_text : FnScope N__law_device_text ["own"] (defScope s__law_device_text) := ⟨rfl, rfl, rfl, by decide +kernel, rfl, by decide +kernel, by decide +kernel⟩
def w__law_device_text (cl : Nat → Addr) (Ξ : Xp) : Ws := (wRet (wJoin (wC (.str "\n")) (wLc [1] (wSeqI (wVar 0)) (wName 1) wYes (wJoin (wC (.str " ")) (wBin dAdd (wLst (wCons (wC (.str "stage")) wNil)) (wLc [2] (wSeqI (wVar 1)) (wName 2) wYes (wCB dStr (wCons (wCB dInt (wCons (wVar 2) wNil)) wNil))))))))
def F__law_device_text (cl : Nat → Addr) : Fd := mkF (pin [0]) 3 (w__law_device_text cl)
theorem cal__law_device_text {P : Program} {w : World} {K : PySem.W.Frag} {Ts : List (Addr × Str)} {mg : Str → Option Value} {base : Heap} {cl : Nat → Addr} {fI : Addr} (G : Gx K mg cl fI) (EX : Exx P w K mg base fI) (D : Dfn K mg "_law_device_text" s__law_device_text none)  : CalS P w K Ts mg base 1 "_law_device_text" s__law_device_text ["own"] (F__law_device_text cl) :=
  cal_of D sc__law_device_text fun f cdv hcd A outer s H E B G0 Ξ lk hr hgd => ⟨_, (dss_one (ds_ret (de_join de_str (de_lc (own := [("some", 1)]) (by rfl) sc__law_device_text.nd (by decide) (di_seq (dv 0)) (blkOk_by (N := N__law_device_text) (sc := defScope s__law_device_text) (by decide +kernel)) (fun _ _ _ _ _ => (dg_name rfl sc__law_device_text.nd rfl (by first | exact Or.inl rfl | exact Or.inr rfl))) (go_name (i := 1) (by decide)) (fun _ _ _ _ _ => pts_nil) wt_yes (fun _ _ _ _ _ => (de_joinK (KF := K) de_str (de_addK (KF := K) (de_lst (da_cons de_str da_nil)) (de_lc (own := [("one", 2)]) (by rfl) sc__law_device_text.nd (by decide) (di_seqK (KF := K) (dv 1)) (blkOk_by (by rfl)) (fun _ _ _ _ _ => (dg_name rfl sc__law_device_text.nd rfl (by first | exact Or.inl rfl | exact Or.inr rfl))) (go_name (i := 2) (by decide)) (fun _ _ _ _ _ => pts_nil) wt_yes (fun _ _ _ _ _ => (de_callT db_str G.b_str (by decide +kernel) (da_cons (de_callT db_int G.b_int (by decide +kernel) (da_cons (dv 2) da_nil)) da_nil)))))))))))⟩

/-! _law_of -/
abbrev s__law_of : Stmt := top 20
abbrev N__law_of : List Str := ["pot", "some"]
theorem sc__law_of : FnScope N__law_of ["pot", "some"] (defScope s__law_of) := ⟨rfl, rfl, rfl, by decide +kernel, rfl, by decide +kernel, by decide +kernel⟩
def w__law_of (cl : Nat → Addr) (Ξ : Xp) : Ws := (wRet (wBin dIx (wVar 1) (wCall 2 (F__law_take cl) noX (wCons (wVar 0) (wCons (wCB dLen (wCons (wVar 1) wNil)) wNil)))))
def F__law_of (cl : Nat → Addr) : Fd := mkF (pin [0, 1]) 2 (w__law_of cl)
theorem cal__law_of {P : Program} {w : World} {K : PySem.W.Frag} {Ts : List (Addr × Str)} {mg : Str → Option Value} {base : Heap} {cl : Nat → Addr} {fI : Addr} (G : Gx K mg cl fI) (EX : Exx P w K mg base fI) (D : Dfn K mg "_law_of" s__law_of none) (C__law_take : Cal P w K Ts mg base 1 "_law_take" ["pot", "upto"] (F__law_take cl)) : CalS P w K Ts mg base 2 "_law_of" s__law_of ["pot", "some"] (F__law_of cl) :=
  cal_of D sc__law_of fun f cdv hcd A outer s H E B G0 Ξ lk hr hgd => ⟨_, (dss_one (ds_ret (de_ix (dv 1) (by exact de_calN (KF := K) (Ts := Ts) C__law_take (hr.mono (by decide : 1 ≤ 1)) hgd (by exact (da_cons (dv 0) (da_cons (de_callB db_len G.b_len (by decide +kernel) (da_cons (dv 1) da_nil)) da_nil)))))))⟩

/-! _law_bad_rows -/
abbrev s__law_bad_rows : Stmt := top 28
abbrev N__law_bad_rows : List Str := ["some"]
theorem sc__law_bad_rows : FnScope N__law_bad_rows [] (defScope s__law_bad_rows) := ⟨rfl, rfl, rfl, by decide +kernel, rfl, by decide +kernel, by decide +kernel⟩
def w__law_bad_rows (cl : Nat → Addr) (Ξ : Xp) : Ws := (wSeq (wSet 0 (wLst (wCons (wC (.str "")) (wCons (wC (.str "stage")) (wCons (wC (.str "stage ")) (wCons (wC (.str "stage 0")) (wCons (wC (.str "stage 0 0")) (wCons (wC (.str "stage 1 2 1")) (wCons (wC (.str "stage 0 1 2 3 4")) (wCons (wC (.str "stages 0 1")) wNil))))))))))
  (wSeq (wDrop (wExtend 0 (wCons (wLst (wCons (wC (.str "Stage 0 1")) (wCons (wC (.str "0 1")) wNil))) wNil)))
  (wSeq (wDrop (wExtend 0 (wCons (wLst (wCons (wC (.str "stage 0 1000001")) (wCons (wC (.str "stage 0 -1")) (wCons (wC (.str "stage 00 1")) (wCons (wC (.str "stage 0 01")) (wCons (wC (.str "stage 0 x")) (wCons (wC (.str "stage 0 1 ")) (wCons (wC (.str " stage 0 1")) wNil)))))))) wNil)))
  (wSeq (wDrop (wExtend 0 (wCons (wLst (wCons (wC (.str "stage  0 1")) (wCons (wC (.str "stage 0  1")) (wCons (wC (.str "stage 0,1")) (wCons (wC (.str "stage 0 +1")) (wCons (wC (.str "stage 0 1.0")) wNil)))))) wNil)))
  (wRet (wBin dAdd (wVar 0) (wLst (wCons (wC (.str "stage 1000000000 0")) (wCons (wC (.str "stage 0 1 2 2")) wNil)))))))))
def F__law_bad_rows (cl : Nat → Addr) : Fd := mkF (pin []) 1 (w__law_bad_rows cl)
theorem cal__law_bad_rows {P : Program} {w : World} {K : PySem.W.Frag} {Ts : List (Addr × Str)} {mg : Str → Option Value} {base : Heap} {cl : Nat → Addr} {fI : Addr} (G : Gx K mg cl fI) (EX : Exx P w K mg base fI) (D : Dfn K mg "_law_bad_rows" s__law_bad_rows none)  : CalS P w K Ts mg base 1 "_law_bad_rows" s__law_bad_rows [] (F__law_bad_rows cl) :=
  cal_of D sc__law_bad_rows fun f cdv hcd A outer s H E B G0 Ξ lk hr hgd => ⟨_, (dss_cons (ds_set rfl sc__law_bad_rows.nd rfl (by first | exact Or.inl rfl | exact Or.inr rfl) (de_lst (da_cons de_str (da_cons de_str (da_cons de_str (da_cons de_str (da_cons de_str (da_cons de_str (da_cons de_str (da_cons de_str da_nil))))))))))
      (dss_cons (ds_expr (de_extend (dv 0) (da_cons (de_lst (da_cons de_str (da_cons de_str da_nil))) da_nil)))
      (dss_cons (ds_expr (de_extend (dv 0) (da_cons (de_lst (da_cons de_str (da_cons de_str (da_cons de_str (da_cons de_str (da_cons de_str (da_cons de_str (da_cons de_str da_nil)))))))) da_nil)))
      (dss_cons (ds_expr (de_extend (dv 0) (da_cons (de_lst (da_cons de_str (da_cons de_str (da_cons de_str (da_cons de_str (da_cons de_str da_nil)))))) da_nil)))
      (dss_one (ds_ret (de_add (dv 0) (de_lst (da_cons de_str (da_cons de_str da_nil))))))))))⟩

/-! _law_spoilt -/
abbrev s__law_spoilt : Stmt := top 29
abbrev N__law_spoilt : List Str := ["pot", "own", "rows", "at", "more"]
theorem sc__law_spoilt : FnScope N__law_spoilt ["pot", "own"] (defScope s__law_spoilt) := ⟨rfl, rfl, rfl, by decide +kernel, rfl, by decide +kernel, by decide +kernel⟩
def w__law_spoilt (cl : Nat → Addr) (Ξ : Xp) : Ws := (wSeq (wSetF 2 (wSplit (wCall 1 (F__law_device_text cl) noX (wCons (wVar 1) wNil)) (wC (.str "\n"))))
  (wSeq (wIfS (wB (wBin dEq (wCall 2 (F__law_take cl) noX (wCons (wVar 0) (wCons (wC (.int 4)) wNil))) (wC (.int 0)))) (wSeq (wSetF 4 (wBin dAdd (wBin dLm (wLst (wCons (wC (.str "stage 0 1")) wNil)) (wBin (dI0 fun i j => .int (i - j)) (wC (.int 6)) (wCB dLen (wCons (wVar 2) wNil)))) (wLst (wCons (wC (.str "stage 0 1")) (wCons (wCall 2 (F__law_of cl) noX (wCons (wVar 0) (wCons (wLst (wCons (wC (.str "stage 0 1")) (wCons (wC (.str "")) (wCons (wC (.str "x")) wNil)))) wNil))) wNil)))))
  (wRet (wTup (wCons (wBin dAdd (wVar 2) (wVar 4)) (wCons (wC (.int 7)) wNil))))) wNext)
  (wSeq (wSetF 3 (wCall 2 (F__law_take cl) noX (wCons (wVar 0) (wCons (wBin dAdd (wCB dLen (wCons (wVar 2) wNil)) (wC (.int 1))) wNil))))
  (wSeq (wIfS (wB (wBin dEq (wVar 3) (wC (.int 6)))) (wRet (wTup (wCons (wBin dAdd (wVar 2) (wLst (wCons (wC (.str "stage 0 5")) wNil))) (wCons (wC (.int 7)) wNil)))) wNext)
  (wRet (wTup (wCons (wBin dAdd (wBin dAdd (wSl (wVar 2) wNoPart (wPart (wVar 3))) (wLst (wCons (wCall 2 (F__law_of cl) noX (wCons (wVar 0) (wCons (wCall 0 (F__law_bad_rows cl) noX wNil) wNil))) wNil))) (wSl (wVar 2) (wPart (wBin dAdd (wVar 3) (wCall 2 (F__law_take cl) noX (wCons (wVar 0) (wCons (wC (.int 2)) wNil))))) wNoPart)) (wCons (wBin dAdd (wVar 3) (wC (.int 1))) wNil))))))))
def F__law_spoilt (cl : Nat → Addr) : Fd := mkF (pin [0, 1]) 5 (w__law_spoilt cl)
theorem cal__law_spoilt {P : Program} {w : World} {K : PySem.W.Frag} {Ts : List (Addr × Str)} {mg : Str → Option Value} {base : Heap} {cl : Nat → Addr} {fI : Addr} (G : Gx K mg cl fI) (EX : Exx P w K mg base fI) (D : Dfn K mg "_law_spoilt" s__law_spoilt none) (C__law_bad_rows : Cal P w K Ts mg base 1 "_law_bad_rows" [] (F__law_bad_rows cl)) (C__law_device_text : Cal P w K Ts mg base 1 "_law_device_text" ["own"] (F__law_device_text cl)) (C__law_of : Cal P w K Ts mg base 2 "_law_of" ["pot", "some"] (F__law_of cl)) (C__law_take : Cal P w K Ts mg base 1 "_law_take" ["pot", "upto"] (F__law_take cl)) : CalS P w K Ts mg base 3 "_law_spoilt" s__law_spoilt ["pot", "own"] (F__law_spoilt cl) :=
  cal_of D sc__law_spoilt fun f cdv hcd A outer s H E B G0 Ξ lk hr hgd => ⟨_, (dss_cons (ds_setF rfl sc__law_spoilt.nd rfl (by first | exact Or.inl rfl | exact Or.inr rfl) (de_split (by exact de_calN (KF := K) (Ts := Ts) C__law_device_text (hr.mono (by decide : 1 ≤ 2)) hgd (by exact (da_cons (dv 1) da_nil))) de_str))
      (dss_cons (ds_if (dt_cmp (dc_eq hr.units) (by exact de_calN (KF := K) (Ts := Ts) C__law_take (hr.mono (by decide : 1 ≤ 2)) hgd (by exact (da_cons (dv 0) (da_cons de_int da_nil)))) de_int) (dss_cons (ds_setF rfl sc__law_spoilt.nd rfl (by first | exact Or.inl rfl | exact Or.inr rfl) (de_add (de_lm (de_lst (da_cons de_str da_nil)) (de_sub de_int (de_callB db_len G.b_len (by decide +kernel) (da_cons (dv 2) da_nil)))) (de_lst (da_cons de_str (da_cons (by exact de_calN (KF := K) (Ts := Ts) C__law_of (hr.mono (by decide : 2 ≤ 2)) hgd (by exact (da_cons (dv 0) (da_cons (de_lst (da_cons de_str (da_cons de_str (da_cons de_str da_nil)))) da_nil)))) da_nil)))))
      (dss_one (ds_ret (de_tup (da_cons (de_add (dv 2) (dv 4)) (da_cons de_int da_nil)))))) dss_nil)
      (dss_cons (ds_setF rfl sc__law_spoilt.nd rfl (by first | exact Or.inl rfl | exact Or.inr rfl) (by exact de_calN (KF := K) (Ts := Ts) C__law_take (hr.mono (by decide : 1 ≤ 2)) hgd (by exact (da_cons (dv 0) (da_cons (de_add (de_callB db_len G.b_len (by decide +kernel) (da_cons (dv 2) da_nil)) de_int) da_nil)))))
      (dss_cons (ds_if (dt_cmp (dc_eq hr.units) (dv 3) de_int) (dss_one (ds_ret (de_tup (da_cons (de_add (dv 2) (de_lst (da_cons de_str da_nil))) (da_cons de_int da_nil))))) dss_nil)
      (dss_one (ds_ret (de_tup (da_cons (de_add (de_add (de_sl (dv 2) do_none (do_some (dv 3))) (de_lst (da_cons (by exact de_calN (KF := K) (Ts := Ts) C__law_of (hr.mono (by decide : 2 ≤ 2)) hgd (by exact (da_cons (dv 0) (da_cons (by exact de_cal0 (KF := K) (Ts := Ts) C__law_bad_rows (hr.mono (by decide : 1 ≤ 2)) hgd) da_nil)))) da_nil))) (de_sl (dv 2) (do_some (de_add (dv 3) (by exact de_calN (KF := K) (Ts := Ts) C__law_take (hr.mono (by decide : 1 ≤ 2)) hgd (by exact (da_cons (dv 0) (da_cons de_int da_nil)))))) do_none)) (da_cons (de_add (dv 3) de_int) da_nil)))))))))⟩

/-! _law_heard -/
abbrev s__law_heard : Stmt := top 27
abbrev N__law_heard : List Str := ["call", "caught"]
theorem sc__law_heard : FnScope N__law_heard ["call"] (defScope s__law_heard) := ⟨rfl, rfl, rfl, by decide +kernel, rfl, by decide +kernel, by decide +kernel⟩
def w__law_heard (cl : Nat → Addr) (fa : Addr) (gp : Hp) (L : Lm1) : Ws := (wSeq (wTry 1 [] 2 cl (fun Ξ => (wDrop (wAct fa gp L Ξ))) (wRet (wVar 1))) (wRet (wC .non)))
def F__law_heard (cl : Nat → Addr) : Lm1 → (Rz → Prop) → Prop := fun L Q => ∀ fa gp, w__law_heard cl fa gp L { nx := fun _ => Q (.dat .non), rt := fun r _ => r.free = true ∧ Q r } (.dat (.fn fa gp) :: List.replicate (N__law_heard.length - 1) .emp)
theorem hrd__law_heard {P : Program} {w : World} {K : PySem.W.Frag} {Ts : List (Addr × Str)} {mg : Str → Option Value} {base : Heap} {cl : Nat → Addr} {fI : Addr} (G : Gx K mg cl fI) (EX : Exx P w K mg base fI) (D : Dfn K mg "_law_heard" s__law_heard none) (hb : ∀ (kV doc pm : Value) (an : Option Addr) (cdv ct : Value) (us : List Value), us.length = 1 → bindArgs (PySem.W.fnOf "_law_heard" "_law_heard" (defArgs s__law_heard) (defBody s__law_heard) (defScope s__law_heard) .none kV doc pm an cdv ct) ⟨us, []⟩ = pure ((["call"] : List Str).zip us)) : Hrd P w K Ts mg base "_law_heard" "call" (F__law_heard cl) := by
  obtain ⟨g, oc, kV, doc, pm, cdv, ct, od, an, osl, h1, h2, h3, h4, _⟩ := D.ex
  exact ⟨g, _, _, _, _, kV, doc, pm, cdv, ct, oc, an, od, osl, N__law_heard, pin [0], w__law_heard cl, h1, h2, h3, h4, .all (hb kV doc pm an cdv ct), sc__law_heard, rfl, Or.inl rfl, fun A outer s H hr B G0 fa gp tA L act => ⟨_, (dss_cons (ds_try2 (cl := cl) (N := 2) rfl rfl rfl sc__law_heard.nd rfl rfl ⟨rfl, rfl, .inl G.n_LoopError⟩ (fun j hj => G.kx j hj) rfl rfl (asg := []) (fun W pn xe po tk B0 G0 H0 Ξ lk => dss_one (ds_expr (act.1 W pn xe po tk B0 G0 H0 Ξ lk _ _))) (fun W D σ H h => act.2 W σ H _ h) (fun a => (dss_one (ds_ret (dv 1))))) (dss_one (ds_ret de_non)))⟩, fun L Q h => h⟩

/-! _law_figures_stages -/
abbrev s__law_figures_stages : Stmt := top 24
abbrev N__law_figures_stages : List Str := ["pot", "stages", "lap", "found", "many", "base", "at"]
theorem sc__law_figures_stages : FnScope N__law_figures_stages ["pot", "stages"] (defScope s__law_figures_stages) := ⟨rfl, rfl, rfl, by decide +kernel, rfl, by decide +kernel, by decide +kernel⟩
def w__law_figures_stages (cl : Nat → Addr) (Ξ : Xp) : Ws := (wSeq (wPuts [3, 4] (wConsH (wLst wNil) (wConsH (wC (.int 1)) wNil)))
  (wSeq (wFor (wRng1 (wCons (wVar 1) wNil)) (wName 2) (wSeq (wSetF 5 (wBin dAdd (wC (.int 2)) (wCall 2 (F__law_of cl) noX (wCons (wVar 0) (wCons (wLst (wCons (wC (.int 0)) (wCons (wC (.int 0)) (wCons (wC (.int 0)) (wCons (wC (.int 1)) (wCons (wC (.int 2)) wNil)))))) wNil)))))
  (wSeq (wDrop (wAppend 3 (wCons (wLc [6] (wRng1 (wCons (wVar 5) wNil)) (wName 6) wYes (wCB dInt (wCons (wBin (dI CMulX fun i j => .int (i * j)) (wVar 6) (wVar 4)) wNil))) wNil)))
  (wSetF 4 (wBin (dI CMulX fun i j => .int (i * j)) (wVar 4) (wVar 5))))))
  (wRet (wVar 3))))
def F__law_figures_stages (cl : Nat → Addr) : Fd := mkF (pin [0, 1]) 7 (w__law_figures_stages cl)
theorem cal__law_figures_stages {P : Program} {w : World} {K : PySem.W.Frag} {Ts : List (Addr × Str)} {mg : Str → Option Value} {base : Heap} {cl : Nat → Addr} {fI : Addr} (G : Gx K mg cl fI) (EX : Exx P w K mg base fI) (D : Dfn K mg "_law_figures_stages" s__law_figures_stages none) (C__law_of : Cal P w K Ts mg base 2 "_law_of" ["pot", "some"] (F__law_of cl)) : CalS P w K Ts mg base 3 "_law_figures_stages" s__law_figures_stages ["pot", "stages"] (F__law_figures_stages cl) :=
  cal_of D sc__law_figures_stages fun f cdv hcd A outer s H E B G0 Ξ lk hr hgd => ⟨_, (dss_cons (ds_putsT (is := [3, 4]) rfl (by decide) rfl (pgs_cons (pg_name sc__law_figures_stages.nd (i := 3) rfl (by first | exact Or.inl rfl | exact Or.inr rfl)) (pgs_cons (pg_name sc__law_figures_stages.nd (i := 4) rfl (by first | exact Or.inl rfl | exact Or.inr rfl)) pgs_nil)) (dah_cons (de_lst da_nil) (dah_cons de_int dah_nil)))
      (dss_cons (ds_for PassesOwn.leaving rfl (di_rng1 rfl G.b_range (da_cons (dv 1) da_nil)) (dg_name rfl sc__law_figures_stages.nd rfl (by first | exact Or.inl rfl | exact Or.inr rfl)) (dss_cons (ds_setF rfl sc__law_figures_stages.nd rfl (by first | exact Or.inl rfl | exact Or.inr rfl) (de_add de_int (by exact de_calN (KF := K) (Ts := Ts) C__law_of (hr.mono (by decide : 2 ≤ 2)) hgd (by exact (da_cons (dv 0) (da_cons (de_lst (da_cons de_int (da_cons de_int (da_cons de_int (da_cons de_int (da_cons de_int da_nil)))))) da_nil))))))
      (dss_cons (ds_expr (de_append (dv 3) (da_cons (de_lc (own := [("at", 6)]) (by rfl) sc__law_figures_stages.nd (by decide) (di_rng1 rfl G.b_range (da_cons (dv 5) da_nil)) (blkOk_by (N := N__law_figures_stages) (sc := defScope s__law_figures_stages) (by decide +kernel)) (fun _ _ _ _ _ => (dg_name rfl sc__law_figures_stages.nd rfl (by first | exact Or.inl rfl | exact Or.inr rfl))) (go_name (i := 6) (by decide)) (fun _ _ _ _ _ => pts_nil) wt_yes (fun _ _ _ _ _ => (de_callT db_int G.b_int (by decide +kernel) (da_cons (de_mul (dv 6) (dv 4)) da_nil)))) da_nil)))
      (dss_one (ds_setF rfl sc__law_figures_stages.nd rfl (by first | exact Or.inl rfl | exact Or.inr rfl) (de_mul (dv 4) (dv 5)))))))
      (dss_one (ds_ret (dv 3)))))⟩

/-! _law_some -/
abbrev s__law_some : Stmt := top 21
abbrev N__law_some : List Str := ["pot", "pool", "many", "lap", "left", "found"]
theorem sc__law_some : FnScope N__law_some ["pot", "pool", "many"] (defScope s__law_some) := ⟨rfl, rfl, rfl, by decide +kernel, rfl, by decide +kernel, by decide +kernel⟩
def w__law_some (cl : Nat → Addr) (Ξ : Xp) : Ws := (wSeq (wPuts [4, 5] (wConsH (wCB dList (wCons (wVar 1) wNil)) (wConsH (wLst wNil) wNil)))
  (wSeq (wFor (wRng1 (wCons (wVar 2) wNil)) (wName 3) (wDrop (wAppend 5 (wCons (wPopAt 4 (wCons (wCall 2 (F__law_take cl) noX (wCons (wVar 0) (wCons (wCB dLen (wCons (wVar 4) wNil)) wNil))) wNil)) wNil))))
  (wRet (wVar 5))))
def F__law_some (cl : Nat → Addr) : Fd := mkF (pin [0, 1, 2]) 6 (w__law_some cl)
theorem cal__law_some {P : Program} {w : World} {K : PySem.W.Frag} {Ts : List (Addr × Str)} {mg : Str → Option Value} {base : Heap} {cl : Nat → Addr} {fI : Addr} (G : Gx K mg cl fI) (EX : Exx P w K mg base fI) (D : Dfn K mg "_law_some" s__law_some none) (C__law_take : Cal P w K Ts mg base 1 "_law_take" ["pot", "upto"] (F__law_take cl)) : CalS P w K Ts mg base 2 "_law_some" s__law_some ["pot", "pool", "many"] (F__law_some cl) :=
  cal_of D sc__law_some fun f cdv hcd A outer s H E B G0 Ξ lk hr hgd => ⟨_, (dss_cons (ds_puts2 rfl rfl sc__law_some.nd rfl rfl (by decide) rfl rfl (dah_cons (de_callT db_list G.b_list (by decide +kernel) (da_cons (dv 1) da_nil)) (dah_cons (de_lst da_nil) dah_nil)) (by rfl))
      (dss_cons (ds_for PassesOwn.leaving rfl (di_rng1 rfl G.b_range (da_cons (dv 2) da_nil)) (dg_name rfl sc__law_some.nd rfl (by first | exact Or.inl rfl | exact Or.inr rfl)) (dss_one (ds_expr (de_append (dv 5) (da_cons (de_popAt (dv 4) (da_cons (by exact de_calN (KF := K) (Ts := Ts) C__law_take (hr.mono (by decide : 1 ≤ 1)) hgd (by exact (da_cons (dv 0) (da_cons (de_callB db_len G.b_len (by decide +kernel) (da_cons (dv 4) da_nil)) da_nil)))) da_nil)) da_nil)))))
      (dss_one (ds_ret (dv 5)))))⟩

/-! _law_lengths -/
abbrev s__law_lengths : Stmt := top 23
abbrev N__law_lengths : List Str := ["pot", "most", "has_zero", "some", "found", "one"]
theorem sc__law_lengths : FnScope N__law_lengths ["pot", "most", "has_zero"] (defScope s__law_lengths) := ⟨rfl, rfl, rfl, by decide +kernel, rfl, by decide +kernel, by decide +kernel⟩
def w__law_lengths (cl : Nat → Addr) (Ξ : Xp) : Ws := (wSeq (wSetF 3 (wListRg (wRg2 (wC (.int 1)) (wBin dAdd (wVar 1) (wC (.int 1))))))
  (wSeq (wSetF 4 (wCall 3 (F__law_some cl) noX (wCons (wVar 0) (wCons (wVar 3) (wCons (wCB dMin2 (wCons (wVar 1) (wCons (wBin dAdd (wBin dAdd (wC (.int 1)) (wCall 2 (F__law_take cl) noX (wCons (wVar 0) (wCons (wC (.int 3)) wNil)))) (wCB dInt (wCons (wNotV (wVar 2)) wNil))) wNil))) wNil)))))
  (wSeq (wSetF 4 (wBin dAdd (wLc [5] (wSeqI (wVar 4)) (wName 5) wYes (wCB dInt (wCons (wVar 5) wNil))) (wIf (wB (wVar 2)) (wLst (wCons (wC (.int 0)) wNil)) (wLst wNil))))
  (wRet (wCall 3 (F__law_some cl) noX (wCons (wVar 0) (wCons (wVar 4) (wCons (wCB dLen (wCons (wVar 4) wNil)) wNil))))))))
def F__law_lengths (cl : Nat → Addr) : Fd := mkF (pin [0, 1, 2]) 6 (w__law_lengths cl)
theorem cal__law_lengths {P : Program} {w : World} {K : PySem.W.Frag} {Ts : List (Addr × Str)} {mg : Str → Option Value} {base : Heap} {cl : Nat → Addr} {fI : Addr} (G : Gx K mg cl fI) (EX : Exx P w K mg base fI) (D : Dfn K mg "_law_lengths" s__law_lengths none) (C__law_some : Cal P w K Ts mg base 2 "_law_some" ["pot", "pool", "many"] (F__law_some cl)) (C__law_take : Cal P w K Ts mg base 1 "_law_take" ["pot", "upto"] (F__law_take cl)) : CalS P w K Ts mg base 3 "_law_lengths" s__law_lengths ["pot", "most", "has_zero"] (F__law_lengths cl) :=
  cal_of D sc__law_lengths fun f cdv hcd A outer s H E B G0 Ξ lk hr hgd => ⟨_, (dss_cons (ds_setF rfl sc__law_lengths.nd rfl (by first | exact Or.inl rfl | exact Or.inr rfl) (de_listRg rfl G.b_list (drg_2 G.b_range de_int (de_add (dv 1) de_int))))
      (dss_cons (ds_setF rfl sc__law_lengths.nd rfl (by first | exact Or.inl rfl | exact Or.inr rfl) (by exact de_calN (KF := K) (Ts := Ts) C__law_some (hr.mono (by decide : 2 ≤ 2)) hgd (by exact (da_cons (dv 0) (da_cons (dv 3) (da_cons (de_callB (db_min2 rfl) G.b_min (by decide +kernel) (da_cons (dv 1) (da_cons (de_add (de_add de_int (by exact de_calN (KF := K) (Ts := Ts) C__law_take (hr.mono (by decide : 1 ≤ 2)) hgd (by exact (da_cons (dv 0) (da_cons de_int da_nil))))) (de_callT db_int G.b_int (by decide +kernel) (da_cons (de_not (dv 2)) da_nil))) da_nil))) da_nil))))))
      (dss_cons (ds_setF rfl sc__law_lengths.nd rfl (by first | exact Or.inl rfl | exact Or.inr rfl) (de_add (de_lc (own := [("one", 5)]) (by rfl) sc__law_lengths.nd (by decide) (di_seq (dv 4)) (blkOk_by (N := N__law_lengths) (sc := defScope s__law_lengths) (by decide +kernel)) (fun _ _ _ _ _ => (dg_name rfl sc__law_lengths.nd rfl (by first | exact Or.inl rfl | exact Or.inr rfl))) (go_name (i := 5) (by decide)) (fun _ _ _ _ _ => pts_nil) wt_yes (fun _ _ _ _ _ => (de_callT db_int G.b_int (by decide +kernel) (da_cons (dv 5) da_nil)))) (de_if (dt_val (dv 2)) (de_lst (da_cons de_int da_nil)) (de_lst da_nil))))
      (dss_one (ds_ret (by exact de_calN (KF := K) (Ts := Ts) C__law_some (hr.mono (by decide : 2 ≤ 2)) hgd (by exact (da_cons (dv 0) (da_cons (dv 4) (da_cons (de_callB db_len G.b_len (by decide +kernel) (da_cons (dv 4) da_nil)) da_nil))))))))))⟩

/-! _law_device -/
abbrev s__law_device : Stmt := top 25
abbrev N__law_device : List Str := ["pot", "stages", "most", "many", "way", "found", "lap", "some"]
theorem sc__law_device : FnScope N__law_device ["pot", "stages", "most"] (defScope s__law_device) := ⟨rfl, rfl, rfl, by decide +kernel, rfl, by decide +kernel, by decide +kernel⟩
def w__law_device (cl : Nat → Addr) (Ξ : Xp) : Ws := (wSeq (wPuts [3, 4] (wConsH (wBin dAdd (wC (.int 1)) (wCall 2 (F__law_take cl) noX (wCons (wVar 0) (wCons (wVar 1) wNil)))) (wConsH (wCall 2 (F__law_take cl) noX (wCons (wVar 0) (wCons (wC (.int 6)) wNil))) wNil)))
  (wSeq (wIfS (wB (wBin (dI0 fun i j => .bl (decide (i < j))) (wVar 4) (wC (.int 4)))) (wSeq (wSet 5 (wCall 2 (F__law_figures_stages cl) noX (wCons (wVar 0) (wCons (wVar 3) wNil))))
  (wSeq (wIfS (wB (wBin dEq (wVar 4) (wC (.int 1)))) (wSet 5 (wCall 3 (F__law_some cl) noX (wCons (wVar 0) (wCons (wVar 5) (wCons (wVar 3) wNil))))) (wIfS (wB (wBin dEq (wVar 4) (wC (.int 2)))) (wSet 5 (wLc [7] (wSeqI (wVar 5)) (wName 7) wYes (wCall 3 (F__law_some cl) noX (wCons (wVar 0) (wCons (wVar 7) (wCons (wCB dLen (wCons (wVar 7) wNil)) wNil)))))) (wIfS (wB (wBin dEq (wVar 4) (wC (.int 3)))) (wSetIx 5 (wCall 3 (F__law_lengths cl) noX (wCons (wVar 0) (wCons (wVar 2) (wCons (wC (.bl true)) wNil)))) (wCall 2 (F__law_take cl) noX (wCons (wVar 0) (wCons (wVar 3) wNil)))) wNext)))
  (wRet (wVar 5)))) wNext)
  (wRet (wLc [6] (wRng1 (wCons (wVar 3) wNil)) (wName 6) wYes (wCall 3 (F__law_lengths cl) noX (wCons (wVar 0) (wCons (wVar 2) (wCons (wOrV (wBin dEq (wVar 4) (wC (.int 4))) (wBin (dI0 fun i j => .bl (decide (j < i))) (wCall 2 (F__law_take cl) noX (wCons (wVar 0) (wCons (wC (.int 4)) wNil))) (wC (.int 0)))) wNil))))))))
def F__law_device (cl : Nat → Addr) : Fd := mkF (pin [0, 1, 2]) 8 (w__law_device cl)
theorem cal__law_device {P : Program} {w : World} {K : PySem.W.Frag} {Ts : List (Addr × Str)} {mg : Str → Option Value} {base : Heap} {cl : Nat → Addr} {fI : Addr} (G : Gx K mg cl fI) (EX : Exx P w K mg base fI) (D : Dfn K mg "_law_device" s__law_device none) (C__law_figures_stages : Cal P w K Ts mg base 3 "_law_figures_stages" ["pot", "stages"] (F__law_figures_stages cl)) (C__law_lengths : Cal P w K Ts mg base 3 "_law_lengths" ["pot", "most", "has_zero"] (F__law_lengths cl)) (C__law_some : Cal P w K Ts mg base 2 "_law_some" ["pot", "pool", "many"] (F__law_some cl)) (C__law_take : Cal P w K Ts mg base 1 "_law_take" ["pot", "upto"] (F__law_take cl)) : CalS P w K Ts mg base 4 "_law_device" s__law_device ["pot", "stages", "most"] (F__law_device cl) :=
  cal_of D sc__law_device fun f cdv hcd A outer s H E B G0 Ξ lk hr hgd => ⟨_, (dss_cons (ds_putsT (is := [3, 4]) rfl (by decide) rfl (pgs_cons (pg_name sc__law_device.nd (i := 3) rfl (by first | exact Or.inl rfl | exact Or.inr rfl)) (pgs_cons (pg_name sc__law_device.nd (i := 4) rfl (by first | exact Or.inl rfl | exact Or.inr rfl)) pgs_nil)) (dah_cons (de_add de_int (by exact de_calN (KF := K) (Ts := Ts) C__law_take (hr.mono (by decide : 1 ≤ 3)) hgd (by exact (da_cons (dv 0) (da_cons (dv 1) da_nil))))) (dah_cons (by exact de_calN (KF := K) (Ts := Ts) C__law_take (hr.mono (by decide : 1 ≤ 3)) hgd (by exact (da_cons (dv 0) (da_cons de_int da_nil)))) dah_nil)))
      (dss_cons (ds_if (dt_cmp dc_lt (dv 4) de_int) (dss_cons (ds_set rfl sc__law_device.nd rfl (by first | exact Or.inl rfl | exact Or.inr rfl) (by exact de_calN (KF := K) (Ts := Ts) C__law_figures_stages (hr.mono (by decide : 3 ≤ 3)) hgd (by exact (da_cons (dv 0) (da_cons (dv 3) da_nil)))))
      (dss_cons (ds_if (dt_cmp (dc_eq hr.units) (dv 4) de_int) (dss_one (ds_set rfl sc__law_device.nd rfl (by first | exact Or.inl rfl | exact Or.inr rfl) (by exact de_calN (KF := K) (Ts := Ts) C__law_some (hr.mono (by decide : 2 ≤ 3)) hgd (by exact (da_cons (dv 0) (da_cons (dv 5) (da_cons (dv 3) da_nil))))))) (dss_one (ds_if (dt_cmp (dc_eq hr.units) (dv 4) de_int) (dss_one (ds_setLc (own := [("some", 7)]) rfl (by rfl) sc__law_device.nd rfl rfl (by rfl) (by decide) (di_seq (dv 5)) (blkOk_by (N := N__law_device) (sc := defScope s__law_device) (by decide +kernel)) (fun _ _ _ _ _ => (dg_name rfl sc__law_device.nd rfl (by first | exact Or.inl rfl | exact Or.inr rfl))) (go_name (i := 7) (by decide)) (fun _ _ _ _ _ => pts_nil) wt_yes (fun _ _ _ _ _ => (by exact de_calN (KF := K) (Ts := Ts) C__law_some (hr.mono (by decide : 2 ≤ 3)) hgd (by exact (da_cons (dv 0) (da_cons (dv 7) (da_cons (de_callB (db_lenK (KF := K)) G.b_len (by decide +kernel) (da_cons (dv 7) da_nil)) da_nil)))))))) (dss_one (ds_if (dt_cmp (dc_eq hr.units) (dv 4) de_int) (dss_one (ds_setIx (by exact de_calN (KF := K) (Ts := Ts) C__law_lengths (hr.mono (by decide : 3 ≤ 3)) hgd (by exact (da_cons (dv 0) (da_cons (dv 2) (da_cons de_bl da_nil))))) (dv 5) (by exact de_calN (KF := K) (Ts := Ts) C__law_take (hr.mono (by decide : 1 ≤ 3)) hgd (by exact (da_cons (dv 0) (da_cons (dv 3) da_nil)))))) dss_nil)))))
      (dss_one (ds_ret (dv 5))))) dss_nil)
      (dss_one (ds_ret (de_lc (own := [("lap", 6)]) (by rfl) sc__law_device.nd (by decide) (di_rng1 rfl G.b_range (da_cons (dv 3) da_nil)) (blkOk_by (N := N__law_device) (sc := defScope s__law_device) (by decide +kernel)) (fun _ _ _ _ _ => (dg_name rfl sc__law_device.nd rfl (by first | exact Or.inl rfl | exact Or.inr rfl))) (go_name (i := 6) (by decide)) (fun _ _ _ _ _ => pts_nil) wt_yes (fun _ _ _ _ _ => (by exact de_calN (KF := K) (Ts := Ts) C__law_lengths (hr.mono (by decide : 3 ≤ 3)) hgd (by exact (da_cons (dv 0) (da_cons (dv 2) (da_cons (de_or (de_cmp (dc_eqK (KF := K) hr.units) (dv 4) de_int) (de_one (de_cmp dc_gt (by exact de_calN (KF := K) (Ts := Ts) C__law_take (hr.mono (by decide : 1 ≤ 3)) hgd (by exact (da_cons (dv 0) (da_cons de_int da_nil)))) de_int))) da_nil)))))))))))⟩

/-! is_number -/
abbrev s_is_number : Stmt := top 5
abbrev N_is_number : List Str := ["value"]
theorem sc_is_number : FnScope N_is_number ["value"] (defScope s_is_number) := ⟨rfl, rfl, rfl, by decide +kernel, rfl, by decide +kernel, by decide +kernel⟩
def w_is_number (cl : Nat → Addr) (Ξ : Xp) : Ws := (wRet (wAndV (wIsi "int" (wVar 0)) (wNotV (wIsi "bool" (wVar 0)))))
def F_is_number (cl : Nat → Addr) : Fd := mkF (pin [0]) 1 (w_is_number cl)
theorem cal_is_number {P : Program} {w : World} {K : PySem.W.Frag} {Ts : List (Addr × Str)} {mg : Str → Option Value} {base : Heap} {cl : Nat → Addr} {fI : Addr} (G : Gx K mg cl fI) (EX : Exx P w K mg base fI) (D : Dfn K mg "is_number" s_is_number none)  : CalS P w K Ts mg base 1 "is_number" s_is_number ["value"] (F_is_number cl) :=
  cal_of D sc_is_number fun f cdv hcd A outer s H E B G0 Ξ lk hr hgd => ⟨_, (dss_one (ds_ret (de_and (de_isi (by decide +kernel) G.b_isinstance G.b_int (by decide +kernel) (dv 0)) (de_one (de_not (de_isi (by decide +kernel) G.b_isinstance G.b_bool (by decide +kernel) (dv 0)))))))⟩

/-! is_within -/
abbrev s_is_within : Stmt := top 6
abbrev N_is_within : List Str := ["value", "low", "high"]
theorem sc_is_within : FnScope N_is_within ["value", "low", "high"] (defScope s_is_within) := ⟨rfl, rfl, rfl, by decide +kernel, rfl, by decide +kernel, by decide +kernel⟩
def w_is_within (cl : Nat → Addr) (Ξ : Xp) : Ws := (wRet (wAndV (wCall 1 (F_is_number cl) noX (wCons (wVar 0) wNil)) (wChain (dI0 fun i j => .bl (decide (i ≤ j))) (dI0 fun i j => .bl (decide (i ≤ j))) (wVar 1) (wVar 0) (wVar 2))))
def F_is_within (cl : Nat → Addr) : Fd := mkF (pin [0, 1, 2]) 3 (w_is_within cl)
theorem cal_is_within {P : Program} {w : World} {K : PySem.W.Frag} {Ts : List (Addr × Str)} {mg : Str → Option Value} {base : Heap} {cl : Nat → Addr} {fI : Addr} (G : Gx K mg cl fI) (EX : Exx P w K mg base fI) (D : Dfn K mg "is_within" s_is_within none) (C_is_number : Cal P w K Ts mg base 1 "is_number" ["value"] (F_is_number cl)) : CalS P w K Ts mg base 2 "is_within" s_is_within ["value", "low", "high"] (F_is_within cl) :=
  cal_of D sc_is_within fun f cdv hcd A outer s H E B G0 Ξ lk hr hgd => ⟨_, (dss_one (ds_ret (de_and (by exact de_calN (KF := K) (Ts := Ts) C_is_number (hr.mono (by decide : 1 ≤ 1)) hgd (by exact (da_cons (dv 0) da_nil))) (de_one (de_chain dc_le dc_le (dv 1) (dv 0) (dv 2))))))⟩

/-! is_stage -/
abbrev s_is_stage : Stmt := top 16
abbrev N_is_stage : List Str := ["value", "length"]
theorem sc_is_stage : FnScope N_is_stage ["value"] (defScope s_is_stage) := ⟨rfl, rfl, rfl, by decide +kernel, rfl, by decide +kernel, by decide +kernel⟩
def w_is_stage (cl : Nat → Addr) (Ξ : Xp) : Ws := (wSeq (wIfS (wOr (wNot (wB (wIsi "tuple" (wVar 0)))) (wNot (wB (wChain (dI0 fun i j => .bl (decide (i ≤ j))) (dI0 fun i j => .bl (decide (i ≤ j))) (wC c_FEWEST_LANES) (wCB dLen (wCons (wVar 0) wNil)) (wC c_MOST_LANES))))) (wRet (wC (.bl false))) wNext)
  (wSeq (wIfS (wNot (wB (wCB dAll (wCons (wLc [1] (wSeqI (wVar 0)) (wName 1) wYes (wCall 3 (F_is_within cl) noX (wCons (wVar 1) (wCons (wC (.int 0)) (wCons (wC c_MOST_LENGTH) wNil))))) wNil)))) (wRet (wC (.bl false))) wNext)
  (wRet (wBin dEq (wLenSetT (wVar 0)) (wCB dLen (wCons (wVar 0) wNil))))))
def F_is_stage (cl : Nat → Addr) : Fd := mkF (pin [0]) 2 (w_is_stage cl)
theorem cal_is_stage {P : Program} {w : World} {K : PySem.W.Frag} {Ts : List (Addr × Str)} {mg : Str → Option Value} {base : Heap} {cl : Nat → Addr} {fI : Addr} (G : Gx K mg cl fI) (EX : Exx P w K mg base fI) (D : Dfn K mg "is_stage" s_is_stage none) (C_is_within : Cal P w K Ts mg base 2 "is_within" ["value", "low", "high"] (F_is_within cl)) : CalS P w K Ts mg base 3 "is_stage" s_is_stage ["value"] (F_is_stage cl) :=
  cal_of D sc_is_stage fun f cdv hcd A outer s H E B G0 Ξ lk hr hgd => ⟨_, (dss_cons (ds_if (DW.dt (dw_or (dt_not (dt_val (de_isi (by decide +kernel) G.b_isinstance G.b_tuple (by decide +kernel) (dv 0)))) (dw_or1 (dt_not (dt_chain dc_le dc_le (de_constK G.c_FEWEST_LANES) (de_callB db_len G.b_len (by decide +kernel) (da_cons (dv 0) da_nil)) (de_constK G.c_MOST_LANES)))))) (dss_one (ds_ret de_bl)) dss_nil)
      (dss_cons (ds_if (dt_not (dt_val (de_callB (db_all rfl) G.b_all (by decide +kernel) (da_cons (de_lc (own := [("length", 1)]) (by rfl) sc_is_stage.nd (by decide) (di_seq (dv 0)) (blkOk_by (N := N_is_stage) (sc := defScope s_is_stage) (by decide +kernel)) (fun _ _ _ _ _ => (dg_name rfl sc_is_stage.nd rfl (by first | exact Or.inl rfl | exact Or.inr rfl))) (go_name (i := 1) (by decide)) (fun _ _ _ _ _ => pts_nil) wt_yes (fun _ _ _ _ _ => (by exact de_calN (KF := K) (Ts := Ts) C_is_within (hr.mono (by decide : 2 ≤ 2)) hgd (by exact (da_cons (dv 1) (da_cons de_int (da_cons (de_constK G.c_MOST_LENGTH) da_nil))))))) da_nil)))) (dss_one (ds_ret de_bl)) dss_nil)
      (dss_one (ds_ret (de_cmp (dc_eq hr.units) (de_lenSetT G.b_len G.b_set (dv 0)) (de_callB db_len G.b_len (by decide +kernel) (da_cons (dv 0) da_nil)))))))⟩

/-! read_number -/
abbrev s_read_number : Stmt := top 7
abbrev N_read_number : List Str := ["word", "number"]
theorem sc_read_number : FnScope N_read_number ["word"] (defScope s_read_number) := ⟨rfl, rfl, rfl, by decide +kernel, rfl, by decide +kernel, by decide +kernel⟩
def w_read_number (cl : Nat → Addr) (Ξ : Xp) : Ws := (wSeq (wIfS (wOr (wNot (wAnd (wB (wStrP Txt.isascii (wVar 0))) (wB (wStrP Txt.isdigit (wVar 0))))) (wB (wBin (dI0 fun i j => .bl (decide (j < i))) (wCB dLen (wCons (wVar 0) wNil)) (wC c_MOST_FIGURES)))) (wRet (wC .non)) wNext)
  (wSeq (wSetF 1 (wCB dIntS (wCons (wVar 0) wNil)))
  (wRet (wIf (wB (wBin dEq (wCB dStr (wCons (wVar 1) wNil)) (wVar 0))) (wVar 1) (wC .non)))))
def F_read_number (cl : Nat → Addr) : Fd := mkF (pin [0]) 2 (w_read_number cl)
theorem cal_read_number {P : Program} {w : World} {K : PySem.W.Frag} {Ts : List (Addr × Str)} {mg : Str → Option Value} {base : Heap} {cl : Nat → Addr} {fI : Addr} (G : Gx K mg cl fI) (EX : Exx P w K mg base fI) (D : Dfn K mg "read_number" s_read_number none)  : CalS P w K Ts mg base 1 "read_number" s_read_number ["word"] (F_read_number cl) :=
  cal_of D sc_read_number fun f cdv hcd A outer s H E B G0 Ξ lk hr hgd => ⟨_, (dss_cons (ds_if (DW.dt (dw_or (dt_not (DW.dt (dw_and (dt_val (de_isascii (dv 0))) (dw_and1 (dt_val (de_isdigit (dv 0))))))) (dw_or1 (dt_cmp dc_gt (de_callB db_len G.b_len (by decide +kernel) (da_cons (dv 0) da_nil)) (de_constK G.c_MOST_FIGURES))))) (dss_one (ds_ret de_non)) dss_nil)
      (dss_cons (ds_setF rfl sc_read_number.nd rfl (by first | exact Or.inl rfl | exact Or.inr rfl) (de_callT db_intS G.b_int (by decide +kernel) (da_cons (dv 0) da_nil)))
      (dss_one (ds_ret (de_if (dt_cmp (dc_eq hr.units) (de_callT db_str G.b_str (by decide +kernel) (da_cons (dv 1) da_nil)) (dv 0)) (dv 1) de_non)))))⟩

/-! read_lengths -/
abbrev s_read_lengths : Stmt := top 15
abbrev N_read_lengths : List Str := ["line", "words", "lengths", "word"]
theorem sc_read_lengths : FnScope N_read_lengths ["line"] (defScope s_read_lengths) := ⟨rfl, rfl, rfl, by decide +kernel, rfl, by decide +kernel, by decide +kernel⟩
def w_read_lengths (cl : Nat → Addr) (Ξ : Xp) : Ws := (wSeq (wSetF 1 (wSplit (wVar 0) (wC (.str " "))))
  (wSeq (wIfS (wB (wBin dNeX (wBin dIx (wVar 1) (wC (.int 0))) (wC (.str "stage")))) (wRet (wC .non)) wNext)
  (wSeq (wSetF 2 (wCB dTuple (wCons (wLc [3] (wSeqI (wSl (wVar 1) (wPart (wC (.int 1))) wNoPart)) (wName 3) wYes (wCall 1 (F_read_number cl) noX (wCons (wVar 3) wNil))) wNil)))
  (wRet (wIf (wB (wCall 1 (F_is_stage cl) noX (wCons (wVar 2) wNil))) (wVar 2) (wC .non))))))
def F_read_lengths (cl : Nat → Addr) : Fd := mkF (pin [0]) 4 (w_read_lengths cl)
theorem cal_read_lengths {P : Program} {w : World} {K : PySem.W.Frag} {Ts : List (Addr × Str)} {mg : Str → Option Value} {base : Heap} {cl : Nat → Addr} {fI : Addr} (G : Gx K mg cl fI) (EX : Exx P w K mg base fI) (D : Dfn K mg "read_lengths" s_read_lengths none) (C_is_stage : Cal P w K Ts mg base 3 "is_stage" ["value"] (F_is_stage cl)) (C_read_number : Cal P w K Ts mg base 1 "read_number" ["word"] (F_read_number cl)) : CalS P w K Ts mg base 4 "read_lengths" s_read_lengths ["line"] (F_read_lengths cl) :=
  cal_of D sc_read_lengths fun f cdv hcd A outer s H E B G0 Ξ lk hr hgd => ⟨_, (dss_cons (ds_setF rfl sc_read_lengths.nd rfl (by first | exact Or.inl rfl | exact Or.inr rfl) (de_split (dv 0) de_str))
      (dss_cons (ds_if (dt_cmp (dc_neX hr.units) (de_ix (dv 1) de_int) de_str) (dss_one (ds_ret de_non)) dss_nil)
      (dss_cons (ds_setF rfl sc_read_lengths.nd rfl (by first | exact Or.inl rfl | exact Or.inr rfl) (de_callT db_tuple G.b_tuple (by decide +kernel) (da_cons (de_lc (own := [("word", 3)]) (by rfl) sc_read_lengths.nd (by decide) (di_seq (de_sl (dv 1) (do_some de_int) do_none)) (blkOk_by (N := N_read_lengths) (sc := defScope s_read_lengths) (by decide +kernel)) (fun _ _ _ _ _ => (dg_name rfl sc_read_lengths.nd rfl (by first | exact Or.inl rfl | exact Or.inr rfl))) (go_name (i := 3) (by decide)) (fun _ _ _ _ _ => pts_nil) wt_yes (fun _ _ _ _ _ => (by exact de_calN (KF := K) (Ts := Ts) C_read_number (hr.mono (by decide : 1 ≤ 3)) hgd (by exact (da_cons (dv 3) da_nil))))) da_nil)))
      (dss_one (ds_ret (de_if (dt_val (by exact de_calN (KF := K) (Ts := Ts) C_is_stage (hr.mono (by decide : 3 ≤ 3)) hgd (by exact (da_cons (dv 2) da_nil)))) (dv 2) de_non))))))⟩

/-! read_stages -/
abbrev s_read_stages : Stmt := top 14
abbrev N_read_stages : List Str := ["text", "stages", "number", "line", "lengths"]
theorem sc_read_stages : FnScope N_read_stages ["text"] (defScope s_read_stages) := ⟨rfl, rfl, rfl, by decide +kernel, rfl, by decide +kernel, by decide +kernel⟩
def w_read_stages (cl : Nat → Addr) (Ξ : Xp) : Ws := (wSeq (wIfS (wNot (wB (wIsi "str" (wVar 0)))) (wRaise (cl 0) Ξ (wCons (wC (.int 0)) wNil)) wNext)
  (wSeq (wSet 1 (wLst wNil))
  (wSeq (wFor (wEnumS 1 (wCons (wSplit (wVar 0) (wC (.str "\n"))) wNil)) (wgTup 2 (wgCons (wName 2) (wgCons (wName 3) wgNil))) (wSeq (wSetF 4 (wCall 1 (F_read_lengths cl) noX (wCons (wVar 3) wNil)))
  (wSeq (wIfS (wOr (wB (wBin dIsN (wVar 4) (wC .non))) (wB (wBin (dI0 fun i j => .bl (decide (j < i))) (wVar 2) (wC c_MOST_STAGES)))) (wRaise (cl 0) Ξ (wCons (wVar 2) wNil)) wNext)
  (wDrop (wAppend 1 (wCons (wVar 4) wNil))))))
  (wRet (wCB dTuple (wCons (wVar 1) wNil))))))
def F_read_stages (cl : Nat → Addr) : Fd := mkF (pin [0]) 5 (w_read_stages cl)
theorem cal_read_stages {P : Program} {w : World} {K : PySem.W.Frag} {Ts : List (Addr × Str)} {mg : Str → Option Value} {base : Heap} {cl : Nat → Addr} {fI : Addr} (G : Gx K mg cl fI) (EX : Exx P w K mg base fI) (D : Dfn K mg "read_stages" s_read_stages none) (C_read_lengths : Cal P w K Ts mg base 4 "read_lengths" ["line"] (F_read_lengths cl)) : CalS P w K Ts mg base 5 "read_stages" s_read_stages ["text"] (F_read_stages cl) :=
  cal_of D sc_read_stages fun f cdv hcd A outer s H E B G0 Ξ lk hr hgd => ⟨_, (dss_cons (ds_if (dt_not (dt_val (de_isi (by decide +kernel) G.b_isinstance G.b_str (by decide +kernel) (dv 0)))) (dss_one (ds_raise (erc_of (x := "BadDevice") EX G.n_BadDevice (G.ek 0 (by decide))) (hr.mono (by decide : 2 ≤ 4)) rfl (da_cons de_int da_nil))) dss_nil)
      (dss_cons (ds_set rfl sc_read_stages.nd rfl (by first | exact Or.inl rfl | exact Or.inr rfl) (de_lst da_nil))
      (dss_cons (ds_for PassesOwn.leaving rfl (di_enumS (c := 1) G.b_enumerate (da_cons (de_split (dv 0) de_str) da_nil)) (dg_tup rfl (dgs_cons (dg_name rfl sc_read_stages.nd rfl (by first | exact Or.inl rfl | exact Or.inr rfl)) (dgs_cons (dg_name rfl sc_read_stages.nd rfl (by first | exact Or.inl rfl | exact Or.inr rfl)) dgs_nil))) (dss_cons (ds_setF rfl sc_read_stages.nd rfl (by first | exact Or.inl rfl | exact Or.inr rfl) (by exact de_calN (KF := K) (Ts := Ts) C_read_lengths (hr.mono (by decide : 4 ≤ 4)) hgd (by exact (da_cons (dv 3) da_nil))))
      (dss_cons (ds_if (DW.dt (dw_or (dt_cmp dc_isN (dv 4) de_non) (dw_or1 (dt_cmp dc_gt (dv 2) (de_constK G.c_MOST_STAGES))))) (dss_one (ds_raise (erc_of (x := "BadDevice") EX G.n_BadDevice (G.ek 0 (by decide))) (hr.mono (by decide : 2 ≤ 4)) rfl (da_cons (dv 2) da_nil))) dss_nil)
      (dss_one (ds_expr (de_append (dv 1) (da_cons (dv 4) da_nil)))))))
      (dss_one (ds_ret (de_callT db_tuple G.b_tuple (by decide +kernel) (da_cons (dv 1) da_nil)))))))⟩

/-! _law_right -/
abbrev s__law_right : Stmt := top 30
abbrev N__law_right : List Str := ["pot", "lap", "value", "told", "caught", "lines", "due", "text", "one"]
theorem sc__law_right : FnScope N__law_right ["pot"] (defScope s__law_right) := ⟨rfl, rfl, rfl, by decide +kernel, rfl, by decide +kernel, by decide +kernel⟩
def w__law_right (cl : Nat → Addr) (Ξ : Xp) : Ws := (wSeq (wFor (wRng1 (wCons (wC (.int 10)) wNil)) (wName 1) (wSeq (wUnp (wCall 2 (F__law_spoilt cl) noX (wCons (wVar 0) (wCons (wCall 3 (F__law_device cl) noX (wCons (wVar 0) (wCons (wC (.int 6)) (wCons (wC (.int 9)) wNil)))) wNil))) (wgTup 2 (wgCons (wName 5) (wgCons (wName 6) wgNil))))
  (wSeq (wSetF 4 (wLam (F__law_heard cl) fun Ξ => (wMake (cl 2) "stages" "text" (F_read_stages cl) Ξ (wCons (wJoin (wC (.str "\n")) (wVar 5)) wNil))))
  (wIfS (wOr (wNot (wB (wIsE cl 2 (kb 0) (wVar 4)))) (wB (wBin dNeX (wCB dReprX (wCons (wVal cl 2 (wVar 4)) wNil)) (wCB dReprX (wCons (wVar 6) wNil))))) (wRet (wC (.bl false))) wNext))))
  (wSeq (wFor (wSeqI (wLst (wCons (wC .non) (wCons (wC (.int 0)) (wCons (wC (.bl true)) (wCons (wTup wNil) (wCons (wLst (wCons (wC (.str "stage 0 1")) wNil)) (wCons wDnew (wCons (wTup (wCons (wTup (wCons (wC (.int 0)) (wCons (wC (.int 1)) wNil))) wNil)) wNil))))))))) (wName 2) (wSeq (wSetF 4 (wLam (F__law_heard cl) fun Ξ => (wMake (cl 2) "stages" "text" (F_read_stages cl) Ξ (wCons (wVar 2) wNil))))
  (wIfS (wOr (wNot (wB (wIsE cl 2 (kb 0) (wVar 4)))) (wB (wBin dNeX (wCB dReprX (wCons (wVal cl 2 (wVar 4)) wNil)) (wC (.str "0"))))) (wRet (wC (.bl false))) wNext)))
  (wSeq (wSetF 3 (wLc [7] (wSeqI (wLst (wCons (wC (.str "")) (wCons (wC (.str "\n")) (wCons (wC (.str "stage 0 1\n")) wNil))))) (wName 7) wYes (wLam (F__law_heard cl) fun Ξ => (wMake (cl 2) "stages" "text" (F_read_stages cl) Ξ (wCons (wVar 7) wNil)))))
  (wRet (wAndV (wCB dAll (wCons (wLc [8] (wSeqI (wVar 3)) (wName 8) wYes (wIsE cl 2 (kb 0) (wVar 8))) wNil)) (wBin dEq (wCB dReprX (wCons (wLc [8] (wSeqI (wVar 3)) (wName 8) wYes (wVal cl 2 (wVar 8))) wNil)) (wC (.str "[1, 1, 2]"))))))))
def F__law_right (cl : Nat → Addr) : Fd := mkF (pin [0]) 9 (w__law_right cl)
theorem cal__law_right {P : Program} {w : World} {K : PySem.W.Frag} {Ts : List (Addr × Str)} {mg : Str → Option Value} {base : Heap} {cl : Nat → Addr} {fI : Addr} (G : Gx K mg cl fI) (EX : Exx P w K mg base fI) {c Pt : Addr} (TB : LamX.TabB base mg c Pt) (hmT : ((Pt, (("_law_right" : Str) ++ ".<locals>.") ++ "<lambda>") : Addr × Str) ∈ Ts) (hu : ∀ p ∈ Ts, p.1 = Pt → p.2 = (("_law_right" : Str) ++ ".<locals>.") ++ "<lambda>") (D : Dfn K mg "_law_right" s__law_right (some c)) (C__law_device : Cal P w K Ts mg base 4 "_law_device" ["pot", "stages", "most"] (F__law_device cl)) (C__law_spoilt : Cal P w K Ts mg base 3 "_law_spoilt" ["pot", "own"] (F__law_spoilt cl)) (H__law_heard : Hrd P w K Ts mg base "_law_heard" "call" (F__law_heard cl)) (Z_Device : Mkr P w K Ts mg base 6 "Device" (cl 2) "stages" "text" (F_read_stages cl)) : CalS P w K Ts mg base 10 "_law_right" s__law_right ["pot"] (F__law_right cl) :=
  cal_of D sc__law_right fun f cdv hcd A outer s H E B G0 Ξ lk hr hgd => ⟨_, (dss_cons (ds_for PassesOwn.leaving rfl (di_rng1 rfl G.b_range (da_cons de_int da_nil)) (dg_name rfl sc__law_right.nd rfl (by first | exact Or.inl rfl | exact Or.inr rfl)) (dss_cons (ds_unp (by exact de_calN (KF := K) (Ts := Ts) C__law_spoilt (hr.mono (by decide : 3 ≤ 9)) hgd (by exact (da_cons (dv 0) (da_cons (by exact de_calN (KF := K) (Ts := Ts) C__law_device (hr.mono (by decide : 4 ≤ 9)) hgd (by exact (da_cons (dv 0) (da_cons de_int (da_cons de_int da_nil))))) da_nil)))) (dg_tup rfl (dgs_cons (dg_name rfl sc__law_right.nd rfl (by first | exact Or.inl rfl | exact Or.inr rfl)) (dgs_cons (dg_name rfl sc__law_right.nd rfl (by first | exact Or.inl rfl | exact Or.inr rfl)) dgs_nil))))
      (dss_cons (ds_setF rfl sc__law_right.nd rfl (by first | exact Or.inl rfl | exact Or.inr rfl) (by exact de_lamK (KF := K) (Ts := Ts) H__law_heard rfl TB (hcd _ rfl) hmT hu (hr.mono (by decide : 7 + 2 ≤ 9)) hgd (LamX.lamS_by (by rfl)) rfl (fun _ _ _ _ _ => rfl) (fun f c' A outer s H E B0 G0 H0 Ξ lk hr hgd => (by exact de_makeW (KF := K) (Ts := Ts) (W := fun cls d _ H' => E cls d H') (Ξ := Ξ) Z_Device (hr.mono (by decide : 6 + 1 ≤ 7)) hgd (by exact (da_cons (de_joinK (KF := K) de_str (dv 5)) da_nil))))))
      (dss_one (ds_if (DW.dt (dw_or (dt_not (dt_val (de_isE G.b_isinstance G.n_BadDevice (fun i hi => ⟨G.ek i hi, G.ki 0 (by decide) i hi⟩) (dv 4)))) (dw_or1 (dt_cmp (dc_neX hr.units) (de_callB (db_reprX hgd (room66 hr)) G.b_repr (by decide +kernel) (da_cons (de_val G.ek (dv 4)) da_nil)) (de_callB (db_reprX hgd (room66 hr)) G.b_repr (by decide +kernel) (da_cons (dv 6) da_nil)))))) (dss_one (ds_ret de_bl)) dss_nil)))))
      (dss_cons (ds_for PassesOwn.leaving rfl (di_seq (de_lst (da_cons de_non (da_cons de_int (da_cons de_bl (da_cons (de_tup da_nil) (da_cons (de_lst (da_cons de_str da_nil)) (da_cons de_dnew (da_cons (de_tup (da_cons (de_tup (da_cons de_int (da_cons de_int da_nil))) da_nil)) da_nil))))))))) (dg_name rfl sc__law_right.nd rfl (by first | exact Or.inl rfl | exact Or.inr rfl)) (dss_cons (ds_setF rfl sc__law_right.nd rfl (by first | exact Or.inl rfl | exact Or.inr rfl) (by exact de_lamK (KF := K) (Ts := Ts) H__law_heard rfl TB (hcd _ rfl) hmT hu (hr.mono (by decide : 7 + 2 ≤ 9)) hgd (LamX.lamS_by (by rfl)) rfl (fun _ _ _ _ _ => rfl) (fun f c' A outer s H E B0 G0 H0 Ξ lk hr hgd => (by exact de_makeW (KF := K) (Ts := Ts) (W := fun cls d _ H' => E cls d H') (Ξ := Ξ) Z_Device (hr.mono (by decide : 6 + 1 ≤ 7)) hgd (by exact (da_cons (dv 2) da_nil))))))
      (dss_one (ds_if (DW.dt (dw_or (dt_not (dt_val (de_isE G.b_isinstance G.n_BadDevice (fun i hi => ⟨G.ek i hi, G.ki 0 (by decide) i hi⟩) (dv 4)))) (dw_or1 (dt_cmp (dc_neX hr.units) (de_callB (db_reprX hgd (room66 hr)) G.b_repr (by decide +kernel) (da_cons (de_val G.ek (dv 4)) da_nil)) de_str)))) (dss_one (ds_ret de_bl)) dss_nil))))
      (dss_cons (ds_setLcF (own := [("text", 7)]) rfl (by rfl) sc__law_right.nd rfl rfl (by rfl) (by decide) (di_seq (de_lst (da_cons de_str (da_cons de_str (da_cons de_str da_nil))))) (blkOk_by (N := N__law_right) (sc := defScope s__law_right) (by decide +kernel)) (fun _ _ _ _ _ => (dg_name rfl sc__law_right.nd rfl (by first | exact Or.inl rfl | exact Or.inr rfl))) (go_name (i := 7) (by decide)) (fun _ _ _ _ _ => pts_nil) wt_yes (fun _ _ _ _ _ => (by exact de_lamK (KF := K) (Ts := Ts) H__law_heard rfl TB (hcd _ rfl) hmT hu (hr.mono (by decide : 7 + 2 ≤ 9)) hgd (LamX.lamS_by (by rfl)) rfl (fun _ _ _ _ _ => rfl) (fun f c' A outer s H E B0 G0 H0 Ξ lk hr hgd => (by exact de_makeW (KF := K) (Ts := Ts) (W := fun cls d _ H' => E cls d H') (Ξ := Ξ) Z_Device (hr.mono (by decide : 6 + 1 ≤ 7)) hgd (by exact (da_cons (dv 7) da_nil)))))))
      (dss_one (ds_ret (de_and (de_callB (db_all rfl) G.b_all (by decide +kernel) (da_cons (de_lc (own := [("one", 8)]) (by rfl) sc__law_right.nd (by decide) (di_seq (dv 3)) (blkOk_by (N := N__law_right) (sc := defScope s__law_right) (by decide +kernel)) (fun _ _ _ _ _ => (dg_name rfl sc__law_right.nd rfl (by first | exact Or.inl rfl | exact Or.inr rfl))) (go_name (i := 8) (by decide)) (fun _ _ _ _ _ => pts_nil) wt_yes (fun _ _ _ _ _ => (de_isEK (KF := K) G.b_isinstance G.n_BadDevice (fun i hi => ⟨G.ek i hi, G.ki 0 (by decide) i hi⟩) (dv 8)))) da_nil)) (de_one (de_cmp (dc_eq hr.units) (de_callB (db_reprX hgd (room66 hr)) G.b_repr (by decide +kernel) (da_cons (de_lc (own := [("one", 8)]) (by rfl) sc__law_right.nd (by decide) (di_seq (dv 3)) (blkOk_by (N := N__law_right) (sc := defScope s__law_right) (by decide +kernel)) (fun _ _ _ _ _ => (dg_name rfl sc__law_right.nd rfl (by first | exact Or.inl rfl | exact Or.inr rfl))) (go_name (i := 8) (by decide)) (fun _ _ _ _ _ => pts_nil) wt_yes (fun _ _ _ _ _ => (de_valK (KF := K) G.ek (dv 8)))) da_nil)) de_str))))))))⟩

/-! _law_pot -/
abbrev s__law_pot : Stmt := top 18
abbrev N__law_pot : List Str := ["script", "place", "cell", "own", "small"]
theorem sc__law_pot : FnScope N__law_pot ["script", "place"] (defScope s__law_pot) := ⟨rfl, rfl, rfl, by decide +kernel, rfl, by decide +kernel, by decide +kernel⟩
def w__law_pot (cl : Nat → Addr) (Ξ : Xp) : Ws := (wSeq (wSetF 2 (wIf (wB (wBin (dI0 fun i j => .bl (decide (i < j))) (wVar 1) (wCB dLen (wCons (wVar 0) wNil)))) (wBin dIx (wVar 0) (wVar 1)) (wBin dAdd (wBin dAdd (wBin (dI CPos fun i j => .int (i % j)) (wCB dSum (wCons (wSl (wVar 0) wNoPart (wPart (wC (.int 1)))) wNil)) (wC (.int 1000003))) (wBin (dI CMulX fun i j => .int (i * j)) (wC (.int 1063)) (wVar 1))) (wC (.int 480)))))
  (wSeq (wSetF 3 (wBin (dI CMulX fun i j => .int (i * j)) (wBin (dI CPos fun i j => .int (i % j)) (wCB dInt (wCons (wCB dAbs (wCons (wVar 2) wNil)) wNil)) (wBin (dI CPowX fun i j => .int (i ^ j.toNat)) (wBin (dI CPowX fun i j => .int (i ^ j.toNat)) (wC (.int 10)) (wC (.int 60))) (wC (.int 5)))) (wCB dInt (wCons (wBin (dI0 fun i j => .bl (decide (j ≤ i))) (wCB dAbs (wCons (wVar 2) wNil)) (wBin (dI CPowX fun i j => .int (i ^ j.toNat)) (wC (.int 10)) (wC (.int 18)))) wNil))))
  (wSeq (wSetF 4 (wBin (dI CPos fun i j => .int (i % j)) (wCB dInt (wCons (wVar 2) wNil)) (wC (.int 2305843009213693951))))
  (wRet (wLst (wCons (wVar 3) (wCons (wBin (dI CPos fun i j => .int (i % j)) (wCB dInt (wCons (wBin dAdd (wBin dAdd (wBin (dI CMulX fun i j => .int (i * j)) (wVar 4) (wC (.int 73133))) (wBin (dI CMulX fun i j => .int (i * j)) (wBin (dI CMulX fun i j => .int (i * j)) (wC (.int 8093)) (wVar 1)) (wVar 1))) (wC (.int 479))) wNil)) (wC (.int 2305843009213693921))) (wCons (wC (.int 0)) wNil))))))))
def F__law_pot (cl : Nat → Addr) : Fd := mkF (pin [0, 1]) 5 (w__law_pot cl)
theorem cal__law_pot {P : Program} {w : World} {K : PySem.W.Frag} {Ts : List (Addr × Str)} {mg : Str → Option Value} {base : Heap} {cl : Nat → Addr} {fI : Addr} (G : Gx K mg cl fI) (EX : Exx P w K mg base fI) (D : Dfn K mg "_law_pot" s__law_pot none)  : CalS P w K Ts mg base 1 "_law_pot" s__law_pot ["script", "place"] (F__law_pot cl) :=
  cal_of D sc__law_pot fun f cdv hcd A outer s H E B G0 Ξ lk hr hgd => ⟨_, (dss_cons (ds_setF rfl sc__law_pot.nd rfl (by first | exact Or.inl rfl | exact Or.inr rfl) (de_if (dt_cmp dc_lt (dv 1) (de_callB db_len G.b_len (by decide +kernel) (da_cons (dv 0) da_nil))) (de_ix (dv 0) (dv 1)) (de_add (de_add (de_mod (de_callB (db_sum rfl) G.b_sum (by decide +kernel) (da_cons (de_sl (dv 0) do_none (do_some de_int)) da_nil)) de_int) (de_mul de_int (dv 1))) de_int)))
      (dss_cons (ds_setF rfl sc__law_pot.nd rfl (by first | exact Or.inl rfl | exact Or.inr rfl) (de_mul (de_mod (de_callT db_int G.b_int (by decide +kernel) (da_cons (de_callB db_abs G.b_abs (by decide +kernel) (da_cons (dv 2) da_nil)) da_nil)) (de_pow (de_pow de_int de_int) de_int)) (de_callT db_int G.b_int (by decide +kernel) (da_cons (de_cmp dc_ge (de_callB db_abs G.b_abs (by decide +kernel) (da_cons (dv 2) da_nil)) (de_pow de_int de_int)) da_nil))))
      (dss_cons (ds_setF rfl sc__law_pot.nd rfl (by first | exact Or.inl rfl | exact Or.inr rfl) (de_mod (de_callT db_int G.b_int (by decide +kernel) (da_cons (dv 2) da_nil)) de_int))
      (dss_one (ds_ret (de_lst (da_cons (dv 3) (da_cons (de_mod (de_callT db_int G.b_int (by decide +kernel) (da_cons (de_add (de_add (de_mul (dv 4) de_int) (de_mul (de_mul de_int (dv 1)) (dv 1))) de_int) da_nil)) de_int) (da_cons de_int da_nil)))))))))⟩

/-! _law_cells -/
abbrev s__law_cells : Stmt := top 22
abbrev N__law_cells : List Str := ["script", "most"]
theorem sc__law_cells : FnScope N__law_cells ["script", "most"] (defScope s__law_cells) := ⟨rfl, rfl, rfl, by decide +kernel, rfl, by decide +kernel, by decide +kernel⟩
def w__law_cells (cl : Nat → Addr) (Ξ : Xp) : Ws := (wRet (wListRg (wRg1 (wCB dMax2 (wCons (wC (.int 1)) (wCons (wCB dMin2 (wCons (wVar 1) (wCons (wCB dLen (wCons (wVar 0) wNil)) wNil))) wNil))))))
def F__law_cells (cl : Nat → Addr) : Fd := mkF (pin [0, 1]) 2 (w__law_cells cl)
theorem cal__law_cells {P : Program} {w : World} {K : PySem.W.Frag} {Ts : List (Addr × Str)} {mg : Str → Option Value} {base : Heap} {cl : Nat → Addr} {fI : Addr} (G : Gx K mg cl fI) (EX : Exx P w K mg base fI) (D : Dfn K mg "_law_cells" s__law_cells none)  : CalS P w K Ts mg base 1 "_law_cells" s__law_cells ["script", "most"] (F__law_cells cl) :=
  cal_of D sc__law_cells fun f cdv hcd A outer s H E B G0 Ξ lk hr hgd => ⟨_, (dss_one (ds_ret (de_listRg rfl G.b_list (drg_1 G.b_range (de_callB (db_max2 rfl) G.b_max (by decide +kernel) (da_cons de_int (da_cons (de_callB (db_min2 rfl) G.b_min (by decide +kernel) (da_cons (dv 1) (da_cons (de_callB db_len G.b_len (by decide +kernel) (da_cons (dv 0) da_nil)) da_nil))) da_nil)))))))⟩

/-! law -/
abbrev s_law : Stmt := top 31
abbrev N_law : List Str := ["script", "place"]
theorem sc_law : FnScope N_law ["script"] (defScope s_law) := ⟨rfl, rfl, rfl, by decide +kernel, rfl, by decide +kernel, by decide +kernel⟩
def w_law (cl : Nat → Addr) (Ξ : Xp) : Ws := (wRet (wCB dAll (wCons (wLc [1] (wSeqI (wCall 2 (F__law_cells cl) noX (wCons (wVar 0) (wCons (wC (.int 3)) wNil)))) (wName 1) wYes (wCallO (F__law_right cl) noX (wCall 2 (F__law_pot cl) noX (wCons (wVar 0) (wCons (wVar 1) wNil))))) wNil)))
def F_law (cl : Nat → Addr) : Fd := mkF (pin [0]) 2 (w_law cl)
theorem cal_law {P : Program} {w : World} {K : PySem.W.Frag} {Ts : List (Addr × Str)} {mg : Str → Option Value} {base : Heap} {cl : Nat → Addr} {fI : Addr} (G : Gx K mg cl fI) (EX : Exx P w K mg base fI) (D : Dfn K mg "law" s_law none) (C__law_cells : Cal P w K Ts mg base 1 "_law_cells" ["script", "most"] (F__law_cells cl)) (C__law_pot : Cal P w K Ts mg base 1 "_law_pot" ["script", "place"] (F__law_pot cl)) (C__law_right : Cal P w K Ts mg base 10 "_law_right" ["pot"] (F__law_right cl)) : CalS P w K Ts mg base 11 "law" s_law ["script"] (F_law cl) :=
  cal_of D sc_law fun f cdv hcd A outer s H E B G0 Ξ lk hr hgd => ⟨_, (dss_one (ds_ret (de_callB (db_all rfl) G.b_all (by decide +kernel) (da_cons (de_lc (own := [("place", 1)]) (by rfl) sc_law.nd (by decide) (di_seq (by exact de_calN (KF := K) (Ts := Ts) C__law_cells (hr.mono (by decide : 1 ≤ 10)) hgd (by exact (da_cons (dv 0) (da_cons de_int da_nil))))) (blkOk_by (N := N_law) (sc := defScope s_law) (by decide +kernel)) (fun _ _ _ _ _ => (dg_name rfl sc_law.nd rfl (by first | exact Or.inl rfl | exact Or.inr rfl))) (go_name (i := 1) (by decide)) (fun _ _ _ _ _ => pts_nil) wt_yes (fun _ _ _ _ _ => (by exact de_calO (KF := K) (Ts := Ts) C__law_right (hr.mono (by decide : 10 ≤ 10)) hgd (by exact de_calN (KF := K) (Ts := Ts) C__law_pot (hr.mono (by decide : 1 ≤ 10)) hgd (by exact (da_cons (dv 0) (da_cons (dv 1) da_nil))))))) da_nil))))⟩
def s_Device__init : Stmt := match top 13 with
  | .ClassDef _ _ _ b _ _ _ _ _ _ _ => b.getD 0 (.Pass ⟨0, 0, 0, 0⟩)
  | s => s
theorem sc_Device__init : FnScope ["self", "text"] ["self", "text"] (defScope s_Device__init) := ⟨rfl, rfl, rfl, by decide +kernel, rfl, by decide +kernel, by decide +kernel⟩
theorem ini_Device {P : Program} {w : World} {K : PySem.W.Frag} {Ts : List (Addr × Str)} {mg : Str → Option Value} {base : Heap} {cl : Nat → Addr} {fI : Addr} (G : Gx K mg cl fI) {f : Addr} {oc kV doc pm cdv ct : Value} {od an : Option Addr} {osl : Array (Option Value)} (lk : K.lookup f = some ⟨oc, od, .func (PySem.W.fnOf "__init__" "Device.__init__" (defArgs s_Device__init) (defBody s_Device__init) (defScope s_Device__init) .none kV doc pm an cdv ct), osl⟩) (hc : PySem.W.codeIn K cdv "Device.__init__" = true) (C0 : Cal P w K Ts mg base 5 "read_stages" ["text"] (F_read_stages cl)) : IniG P w K mg base 6 f (PySem.W.fnOf "__init__" "Device.__init__" (defArgs s_Device__init) (defBody s_Device__init) (defScope s_Device__init) .none kV doc pm an cdv ct) ["self", "text"] (spIni K Ts (cl 2) "stages" "text" (F_read_stages cl)) :=
  ini_of lk hc sc_Device__init C0 rfl G.k_Device G.na_Device_stages G.na_Device_text (by decide) (by decide) (fun _ _ _ _ _ => by rfl) (fun _ _ _ _ _ => by first | exact Or.inl rfl | exact Or.inr (Or.inl rfl)) (fun _ _ _ _ _ => by first | exact Or.inl rfl | exact Or.inr (Or.inl rfl)) (by decide) (by decide) (by decide) (fun _ _ _ _ _ => by rfl) (fun _ _ _ _ _ => by rfl) (fun _ _ _ _ _ => by rfl)
end Lk

set_option Elab.async false
set_option linter.all false
set_option maxRecDepth 100000
set_option maxHeartbeats 4000000
set_option exponentiation.threshold 3000
namespace DL
open PySem L2
/-! ### reckoning with slots -/
theorem backS_nb {ρ : Sl} {rs : List Rz} {as : Sl} (h : rs.all (fun r => match r with | .bor _ => false | _ => true) = true) : backS ρ rs as = ρ := by
  unfold backS
  refine List.ext_getElem? fun i => ?_
  rw [List.getElem?_mapIdx]
  cases ρ[i]? with
  | none => rfl
  | some s =>
    cases s with
    | own o =>
      have : rs.findIdx? (isBor i) = none := List.findIdx?_eq_none_iff.mpr fun r hr => by
        have := List.all_eq_true.mp h r hr
        cases r <;> first | rfl | (cases this)
      simp only [this, Option.map_some]
    | _ => rfl
theorem backS_0 {ρ as : Sl} : backS ρ [] as = ρ := backS_nb rfl
theorem backS_1 {ρ as : Sl} {a : PD} : backS ρ [.dat a] as = ρ := backS_nb rfl
theorem backS_2 {ρ as : Sl} {a b : PD} : backS ρ [.dat a, .dat b] as = ρ := backS_nb rfl
theorem backS_3 {ρ as : Sl} {a b c : PD} : backS ρ [.dat a, .dat b, .dat c] as = ρ := backS_nb rfl
theorem backS_4 {ρ as : Sl} {a b c d : PD} : backS ρ [.dat a, .dat b, .dat c, .dat d] as = ρ := backS_nb rfl
theorem backS_o {ρ : Sl} {rs : List Rz} {as : Sl} {k : Nat} {o : OD} (hk : ρ[k]? = some (.own o)) (h : rs.all (fun r => match r with | .bor _ => false | _ => true) = true) : backS ρ (.bor k :: rs) as = ρ.set k (as.getD 0 .emp) := by
  unfold backS
  refine List.ext_getElem? fun i => ?_
  rw [List.getElem?_mapIdx]
  have none_ : ∀ i, rs.findIdx? (isBor i) = none := fun i => List.findIdx?_eq_none_iff.mpr fun r hr => by
    have := List.all_eq_true.mp h r hr
    cases r <;> first | rfl | (cases this)
  by_cases hi : i = k
  · subst hi
    have hl := (List.getElem?_eq_some_iff.mp hk).1
    rw [hk, List.getElem?_set_self hl]
    have : (Rz.bor i :: rs).findIdx? (isBor i) = some 0 := by simp [List.findIdx?_cons, isBor]
    simp only [this, Option.map_some]
  · rw [List.getElem?_set_ne (Ne.symm hi)]
    cases ρ[i]? with
    | none => rfl
    | some s =>
      cases s with
      | own o =>
        have : (Rz.bor k :: rs).findIdx? (isBor i) = none := by
          rw [List.findIdx?_cons]
          have : isBor i (.bor k) = false := by unfold isBor; simp; exact fun z => hi z.symm
          rw [this, none_ i]; rfl
        simp only [this, Option.map_some]
      | _ => rfl
theorem backS_o0 {ρ as : Sl} {k : Nat} {o : OD} (hk : ρ[k]? = some (.own o)) : backS ρ [.bor k] as = ρ.set k (as.getD 0 .emp) := backS_o hk rfl
theorem backS_o1 {ρ as : Sl} {k : Nat} {o : OD} {a : PD} (hk : ρ[k]? = some (.own o)) : backS ρ [.bor k, .dat a] as = ρ.set k (as.getD 0 .emp) := backS_o hk rfl
theorem backS_o2 {ρ as : Sl} {k : Nat} {o : OD} {a b : PD} (hk : ρ[k]? = some (.own o)) : backS ρ [.bor k, .dat a, .dat b] as = ρ.set k (as.getD 0 .emp) := backS_o hk rfl
theorem backS_o3 {ρ as : Sl} {k : Nat} {o : OD} {a b c : PD} (hk : ρ[k]? = some (.own o)) : backS ρ [.bor k, .dat a, .dat b, .dat c] as = ρ.set k (as.getD 0 .emp) := backS_o hk rfl
theorem ty_non : PD.ty .non = some "NoneType" := rfl
theorem ty_bl {b : Bool} : PD.ty (.bl b) = some "bool" := rfl
theorem ty_int {i : Int} : PD.ty (.int i) = some "int" := rfl
theorem ty_str {x : Str} : PD.ty (.str x) = some "str" := rfl
theorem ty_lst {xs : List PD} : PD.ty (.lst xs) = some "list" := rfl
theorem ty_scr {ns : List Int} : PD.ty (.scr ns) = some "list" := rfl
theorem ty_tup {xs : List PD} : PD.ty (.tup xs) = some "tuple" := rfl
theorem ty_dct {ks : List (Key × PD)} : PD.ty (.dct ks) = some "dict" := rfl
theorem atI0a {α : Type} {x : α} : atI [x] 0 = some x := rfl
theorem atI0b {α : Type} {x y : α} : atI [x, y] 0 = some x := rfl
theorem atI0c {α : Type} {x y z : α} : atI [x, y, z] 0 = some x := rfl
theorem atI1b {α : Type} {x y : α} : atI [x, y] 1 = some y := rfl
theorem atI1c {α : Type} {x y z : α} : atI [x, y, z] 1 = some y := rfl
theorem atI2c {α : Type} {x y z : α} : atI [x, y, z] 2 = some z := rfl
theorem cmp_int (i : Int) : cmpOk (.int i) := ⟨rfl, rfl⟩
theorem cmp_bl (b : Bool) : cmpOk (.bl b) := ⟨rfl, rfl⟩
theorem cmp_str {s : Str} (h : PyData.strOk s = true) : cmpOk (.str s) := ⟨rfl, by simp [PD.py, SeqAt.shaped, PyData.canLay0, PyData.depth, h]⟩
theorem dEq_int {i j : Int} {k : Rz → Prop} : dEq (.int i) (.int j) k = k (.dat (.bl (decide (i = j)))) := by
  unfold dEq
  have e : PyData.eqv (PD.int i).py (PD.int j).py = decide (i = j) := by simp only [PD.py, PyData.eqv]; by_cases h : i = j <;> simp [h]
  rw [e]
  simp [cmp_int]
theorem dNeX_int {i j : Int} {k : Rz → Prop} : dNeX (.int i) (.int j) k = k (.dat (.bl (decide (i ≠ j)))) := by
  show dNe (.int i) (.int j) k = _
  unfold dNe
  have e : PyData.eqv (PD.int i).py (PD.int j).py = decide (i = j) := by simp only [PD.py, PyData.eqv]; by_cases h : i = j <;> simp [h]
  rw [e]
  simp [cmp_int]
theorem dEq_str {s t : Str} {k : Rz → Prop} (hs : PyData.strOk s = true) (ht : PyData.strOk t = true) : dEq (.str s) (.str t) k = k (.dat (.bl (decide (s = t)))) := by
  unfold dEq
  have e : PyData.eqv (PD.str s).py (PD.str t).py = decide (s = t) := by simp only [PD.py, PyData.eqv]; by_cases h : s = t <;> simp [h]
  rw [e]
  simp [cmp_str hs, cmp_str ht]
theorem dNeX_str {s t : Str} {k : Rz → Prop} (hs : PyData.strOk s = true) (ht : PyData.strOk t = true) : dNeX (.str s) (.str t) k = k (.dat (.bl (decide (s ≠ t)))) := by
  show dNe (.str s) (.str t) k = _
  unfold dNe
  have e : PyData.eqv (PD.str s).py (PD.str t).py = decide (s = t) := by simp only [PD.py, PyData.eqv]; by_cases h : s = t <;> simp [h]
  rw [e]
  simp [cmp_str hs, cmp_str ht]
/-! ### numbers within the bits that the machine bears -/
theorem bits_le (i : Int) : Builtin.Int.intBits i ≤ i.natAbs.log2 + 1 := by
  unfold Builtin.Int.intBits
  split <;> omega
theorem bits_of {i : Int} {k : Nat} (h : i.natAbs < 2 ^ k) : Builtin.Int.intBits i ≤ k + 1 := by
  have h1 := bits_le i
  have h2 : i.natAbs.log2 ≤ k := by
    by_cases h0 : i.natAbs = 0
    · rw [h0]; simp
    · exact Nat.le_of_lt ((Nat.log2_lt h0).mpr h)
  omega
/-- far below the machine's limits -/
def Sm (i : Int) : Prop := i.natAbs < 2 ^ 2000
theorem mulX {i j : Int} (h : Sm i) (h' : Sm j) : CMulX i j := by
  have h1 := bits_of h
  have h2 := bits_of h'
  unfold CMulX
  omega
theorem powX {i : Int} {j : Int} (h : Sm i) (h0 : 0 ≤ j) (h' : j ≤ 60) : CPowX i j := by
  have h1 := bits_of h
  refine ⟨h0, ?_⟩
  have h2 : (Builtin.Int.intBits i : Int) ≤ 2001 := by omega
  calc (Builtin.Int.intBits i : Int) * j ≤ 2001 * 60 := Int.mul_le_mul h2 h' h0 (by decide)
    _ ≤ 2 ^ 27 := by decide
theorem sm_big {i : Int} (h : i.natAbs < 2 ^ 128) : Sm i := Nat.lt_of_lt_of_le h (Nat.pow_le_pow_right (by decide) (by decide))
theorem log_sm {n : Int} (h : Sm n) : n.natAbs.log2 < 2000 := by
  by_cases h0 : n.natAbs = 0
  · rw [h0]; simp
  · exact (Nat.log2_lt h0).mpr h
theorem divX {i n : Int} (h0 : 0 < n) (h : Sm n) : CDivW i n := ⟨h0, by have := log_sm h; omega⟩
theorem emod_rng {x n : Int} (h : 0 < n) : 0 ≤ x % n ∧ x % n < n := ⟨Int.emod_nonneg x (by omega), Int.emod_lt_of_pos x h⟩
theorem sz {n : Nat} (h : n ≤ 100000) : n ≤ sizeLine := by rw [sizeLine_eq]; omega
theorem sz' {n : Nat} (h : n < 100000) : n < sizeLine := by rw [sizeLine_eq]; omega
theorem warmI {r : Rz} {ρ : Sl} {d : PD} (h : r.pd ρ = some d) : r.cold = true ∨ ∃ d, r.pd ρ = some d := .inr ⟨d, h⟩
theorem atI_of {α : Type} {xs : List α} {d : Int} (h0 : 0 ≤ d) (h1 : d < xs.length) : ∃ x, atI xs d = some x ∧ xs[d.toNat]? = some x := by
  have hl : d.toNat < xs.length := by omega
  refine ⟨xs[d.toNat], ?_, List.getElem?_eq_getElem hl⟩
  unfold atI ixN
  rw [if_pos h0, if_pos h1]
  exact List.getElem?_eq_getElem hl
/-! ### pots -/
/-- a pot: its cell, its mixed number, how often it was mixed -/
def PotI (m a b c : Int) : Prop := 0 ≤ a ∧ 0 ≤ b ∧ b < 2305843009213693952 ∧ 0 ≤ c ∧ c ≤ m
def Pot (m : Int) (s : SD) : Prop := ∃ a b c, s = .own (.lst [.int a, .int b, .int c]) ∧ PotI m a b c
theorem Pot.mono {m m' : Int} {s : SD} (h : Pot m s) (hm : m ≤ m') : Pot m' s := by
  obtain ⟨a, b, c, e, h1, h2, h3, h4, h5⟩ := h
  exact ⟨a, b, c, e, h1, h2, h3, h4, by omega⟩
theorem Pot.own {m : Int} {s : SD} (h : Pot m s) : ∃ o, s = .own o := by obtain ⟨a, b, c, e, _⟩ := h; exact ⟨_, e⟩
theorem primes (k : Int) (h0 : 0 ≤ k) (h1 : k < 5) : ∃ p : Int, atI [PD.int 2147483647, PD.int 2147483629, PD.int 2147483587, PD.int 2147483579, PD.int 2147483563] k = some (.int p) ∧ 0 < p ∧ p < 2147483648 := by
  have : k = 0 ∨ k = 1 ∨ k = 2 ∨ k = 3 ∨ k = 4 := by omega
  rcases this with rfl | rfl | rfl | rfl | rfl
  · exact ⟨_, rfl, by decide, by decide⟩
  · exact ⟨_, rfl, by decide, by decide⟩
  · exact ⟨_, rfl, by decide, by decide⟩
  · exact ⟨_, rfl, by decide, by decide⟩
  · exact ⟨_, rfl, by decide, by decide⟩
theorem ix0 : ixN 3 0 = some 0 := rfl
theorem ix2 : ixN 3 2 = some 2 := rfl
theorem pinned2 {x y : SD} (h : ∀ o, y ≠ .own o) : pinned (pin [0, 1]) [x, y] := fun i o e => by
  match i, e with
  | 0, _ => rfl
  | 1, e => cases e; exact absurd rfl (h o)
theorem pinned1 {x : SD} : pinned (pin [0]) [x] := fun i o e => by
  match i, e with
  | 0, _ => rfl
def wTake (A B : Int) : Ws := (wSeq (wIfS (wB (wBin (dI0 fun i j => .bl (decide (j < i))) (wBin dIx (wVar 0) (wC (.int 0))) (wC (.int 0)))) (wSeq (wSetF 4 (wBin (dI CPos fun i j => .int (i % j)) (wCB dInt (wCons (wBin dIx (wVar 0) (wC (.int 0))) wNil)) (wVar 1)))
  (wSeq (wSetIx 0 (wBin (dI CDivW fun i j => .int (i / j)) (wBin dIx (wVar 0) (wC (.int 0))) (wVar 1)) (wC (.int 0)))
  (wRet (wVar 4)))) wNext)
  (wSeq (wSetIx 0 (wBin dAdd (wBin dIx (wVar 0) (wC (.int 2))) (wC (.int 1))) (wC (.int 2)))
  (wSeq (wSetF 2 (wBin dIx (wLst (wCons (wC (.int 2147483647)) (wCons (wC (.int 2147483629)) (wCons (wC (.int 2147483587)) (wCons (wC (.int 2147483579)) (wCons (wC (.int 2147483563)) wNil)))))) (wBin (dI CPos fun i j => .int (i % j)) (wCB dInt (wCons (wBin dIx (wVar 0) (wC (.int 2))) wNil)) (wC (.int 5)))))
  (wSeq (wSetF 3 (wBin (dI CPos fun i j => .int (i % j)) (wCB dInt (wCons (wBin (dI CPowX fun i j => .int (i ^ j.toNat)) (wCB dInt (wCons (wBin dAdd (wBin dAdd (wBin dIx (wVar 0) (wC (.int 1))) (wBin (dI CMulX fun i j => .int (i * j)) (wBin (dI CMulX fun i j => .int (i * j)) (wC (.int A)) (wBin dIx (wVar 0) (wC (.int 2)))) (wBin dIx (wVar 0) (wC (.int 2))))) (wC (.int B))) wNil)) (wC (.int 3))) wNil)) (wVar 2)))
  (wSeq (wSetF 3 (wBin (dI CPos fun i j => .int (i % j)) (wCB dInt (wCons (wBin (dI CMulX fun i j => .int (i * j)) (wVar 3) (wBin dAdd (wBin (dI CPos fun i j => .int (i % j)) (wCB dInt (wCons (wVar 3) wNil)) (wC (.int 10009))) (wBin (dI CMulX fun i j => .int (i * j)) (wC (.int 89)) (wBin dIx (wVar 0) (wC (.int 2)))))) wNil)) (wC (.int 2305843009213693907))))
  (wRet (wBin (dI CPos fun i j => .int (i % j)) (wCB dInt (wCons (wBin (dI CDivW fun i j => .int (i / j)) (wVar 3) (wC (.int 173))) wNil)) (wVar 1))))))))
def FTake (A B : Int) : Fd := mkF (pin [0, 1]) 5 (fun _ => wTake A B)
/-- the numbers of a pot are small -/
def AB (A B : Int) : Prop := 0 ≤ A ∧ A ≤ 1000000 ∧ 0 ≤ B ∧ B ≤ 1000000
theorem take_ok {A B m n : Int} {s : SD} {Q : Rz → Sl → Prop} {Ξ : Xp} (hAB : AB A B) (hp : Pot m s) (hm : m ≤ 1000000000000) (hn : 0 < n) (hn' : Sm n)
    (h : ∀ d s', 0 ≤ d → d < n → Pot (m + 1) s' → Q (.dat (.int d)) [s', .dat (.int n)]) : FTake A B [s, .dat (.int n)] Q Ξ := by
  obtain ⟨a, b, c, rfl, ha, hb, hb', hc, hc'⟩ := hp
  obtain ⟨hA, hA', hB, hB'⟩ := hAB
  unfold FTake mkF
  refine ⟨pinned2 (fun o z => by cases z), ?_⟩
  simp only [wTake, wSeq, wIfS, wSetF, wSet, wSetIx, wRet, wB, wBin, wUn, wCB, wCons, wNil, wVar, wC, dI, dI0, dIx, dInt, look, looks, ok, Rz.pd, SD.pd, OD.pd, Rz.cold, Rz.cool, warm, pdsOf, frz, frzAll, ownL, List.length_cons, List.length_nil, List.cons_append, List.nil_append, List.replicate, Nat.reduceAdd, Nat.reduceSub, List.getElem?_cons_zero, List.getElem?_cons_succ, Option.bind_some, atI0c, atI1c, atI2c, ix0, ix2, List.set_cons_zero, List.set_cons_succ, true_or, or_true, true_and, wLst, leave, fin, wNext, dAdd]
  have hpos : CPos a n := hn
  have hdiv : CDivW a n := divX hn hn'
  by_cases h0 : 0 < a
  · simp only [decide_eq_true h0]
    refine ⟨hpos, hdiv, ?_⟩
    have := emod_rng (x := a) hn
    exact h (a % n) _ this.1 this.2 ⟨a / n, b, c, rfl, Int.ediv_nonneg ha (by omega), hb, hb', hc, by omega⟩
  · simp only [decide_eq_false h0]
    obtain ⟨p, ep, p0, p1⟩ := primes ((c + 1) % 5) (emod_rng (by decide)).1 (emod_rng (by decide)).2
    rw [ep]
    have hc1 : Sm (c + 1) := sm_big (by omega)
    have hm2 : Sm (A * (c + 1)) := by
      have q1 : A * (c + 1) ≤ 1000000 * 1000000000001 := Int.mul_le_mul hA' (by omega) (by omega) (by decide)
      have q0 : 0 ≤ A * (c + 1) := Int.mul_nonneg hA (by omega)
      exact sm_big (by omega)
    have q1 : A * (c + 1) * (c + 1) ≤ 1000000 * 1000000000001 * 1000000000001 := Int.mul_le_mul (Int.mul_le_mul hA' (by omega) (by omega) (by decide)) (by omega) (by omega) (by decide)
    have q0 : 0 ≤ A * (c + 1) * (c + 1) := Int.mul_nonneg (Int.mul_nonneg hA (by omega)) (by omega)
    refine ⟨by rw [sizeLine_eq]; decide, .inr ⟨_, rfl⟩, by unfold CPos; decide, mulX (sm_big (by omega)) hc1, mulX hm2 hc1, powX (sm_big (by omega)) (by decide) (by decide), ?_⟩
    show CPos _ p ∧ _
    obtain ⟨r0, r1⟩ := emod_rng (x := (b + A * (c + 1) * (c + 1) + B) ^ Int.toNat 3) p0
    generalize (b + A * (c + 1) * (c + 1) + B) ^ Int.toNat 3 % p = u at r0 r1 ⊢
    obtain ⟨v0, v1⟩ := emod_rng (x := u) (n := 10009) (by decide)
    refine ⟨p0, by unfold CPos; decide, mulX (sm_big (by decide)) hc1, mulX (sm_big (by omega)) (sm_big (by omega)), by unfold CPos; decide, divX (by decide) (sm_big (by decide)), hpos, ?_⟩
    have := emod_rng (x := u * (u % 10009 + 89 * (c + 1)) % 2305843009213693907 / 173) hn
    exact h _ _ this.1 this.2 ⟨a, b, c + 1, rfl, ha, hb, hb', by omega, by omega⟩
def wOf (A B : Int) : Ws := (wRet (wBin dIx (wVar 1) (wCall 2 (FTake A B) noX (wCons (wVar 0) (wCons (wCB dLen (wCons (wVar 1) wNil)) wNil)))))
def FOf (A B : Int) : Fd := mkF (pin [0, 1]) 2 (fun _ => wOf A B)
theorem of_ok {A B m : Int} {s : SD} {xs : List PD} {Q : Rz → Sl → Prop} {Ξ : Xp} (hAB : AB A B) (hp : Pot m s) (hm : m ≤ 1000000000000) (h0 : 0 < xs.length) (h1 : xs.length ≤ 100000)
    (h : ∀ x s', x ∈ xs → Pot (m + 1) s' → Q (.dat x) [s', .dat (.lst xs)]) : FOf A B [s, .dat (.lst xs)] Q Ξ := by
  obtain ⟨o, ho⟩ := hp.own
  unfold FOf mkF
  refine ⟨pinned2 (fun o z => by cases z), ?_⟩
  subst ho
  simp only [wOf, wSeq, wNext, wIfS, wSetF, wSet, into, wSetIx, wRet, wRetN, wDrop, wB, wBin, wUn, wCB, wCons, wNil, wVar, wC, wIf, wAnd, wOr, wNot, wAndV, wOrV, wNotV, wTup, wLst, wSl, wNoPart, wPart, wChain, wUnp, wgTup, wgCons, wgNil, wName, wIsi, wListRg, wRg1, wRg2, wTupRg, wPuts, puts, Rz.sd, wConsH, wAppend, wExtend, ownL, dI, dI0, dIx, dInt, dAbs, dLen, dMax2, dMin2, dSum, dAll, dAny, dList, dTuple, dAdd, dNeg, dIsN, dNotN, PD.isN, dSl, look, looks, ok, Rz.pd, SD.pd, OD.pd, Rz.cold, Rz.cool, warm, pdsOf, frz, frzAll, leave, argOf, onceB, newBor, isBor, ty_non, ty_bl, ty_int, ty_str, ty_lst, ty_scr, ty_tup, ty_dct, isa, String.reduceBEq, beq_self_eq_true, Bool.false_and, Bool.and_false, Bool.not_true, Bool.or_self, wYes, wCall, backS_0, backS_1, backS_2, backS_3, backS_4, backS_o0, backS_o1, backS_o2, backS_o3, dEq_int, dEq_str, dNeX_int, dNeX_str, List.length_cons, List.length_nil, List.cons_append, List.nil_append, List.replicate, Nat.reduceAdd, Nat.reduceSub, List.getElem?_cons_zero, List.getElem?_cons_succ, Option.bind_some, List.set_cons_zero, List.set_cons_succ, List.map_cons, List.map_nil, List.any_cons, List.any_nil, List.getD_cons_zero, List.getD_cons_succ, true_or, or_true, true_and, and_true, Bool.and_true, Bool.true_and, Bool.or_false, Bool.false_or, Bool.not_false, Bool.not_true, Bool.or_true, Bool.true_or, decide_true, decide_false, wFor, wRng1, wRng2, wLc, wSeqI, items, wEnumX, wCallO, wNever, noOwn, List.all_cons, List.all_nil, wipeS, Bool.and_self, decide_eq_true_eq, atI0a, atI0b, atI0c, atI1b, atI1c, atI2c]
  refine take_ok hAB hp hm (by omega) (sm_big (by omega)) fun d s' hd hd' hp' => ?_
  obtain ⟨x, hat, hx⟩ := atI_of hd hd'
  obtain ⟨o', ho'⟩ := hp'.own
  subst ho'
  rw [backS_o1 rfl]
  simp only [wSeq, wNext, wIfS, wSetF, wSet, into, wSetIx, wRet, wRetN, wDrop, wB, wBin, wUn, wCB, wCons, wNil, wVar, wC, wIf, wAnd, wOr, wNot, wAndV, wOrV, wNotV, wTup, wLst, wSl, wNoPart, wPart, wChain, wUnp, wgTup, wgCons, wgNil, wName, wIsi, wListRg, wRg1, wRg2, wTupRg, wPuts, puts, Rz.sd, wConsH, wAppend, wExtend, ownL, dI, dI0, dIx, dInt, dAbs, dLen, dMax2, dMin2, dSum, dAll, dAny, dList, dTuple, dAdd, dNeg, dIsN, dNotN, PD.isN, dSl, look, looks, ok, Rz.pd, SD.pd, OD.pd, Rz.cold, Rz.cool, warm, pdsOf, frz, frzAll, leave, argOf, onceB, newBor, isBor, ty_non, ty_bl, ty_int, ty_str, ty_lst, ty_scr, ty_tup, ty_dct, isa, String.reduceBEq, beq_self_eq_true, Bool.false_and, Bool.and_false, Bool.not_true, Bool.or_self, wYes, wCall, backS_0, backS_1, backS_2, backS_3, backS_4, backS_o0, backS_o1, backS_o2, backS_o3, dEq_int, dEq_str, dNeX_int, dNeX_str, List.length_cons, List.length_nil, List.cons_append, List.nil_append, List.replicate, Nat.reduceAdd, Nat.reduceSub, List.getElem?_cons_zero, List.getElem?_cons_succ, Option.bind_some, List.set_cons_zero, List.set_cons_succ, List.map_cons, List.map_nil, List.any_cons, List.any_nil, List.getD_cons_zero, List.getD_cons_succ, true_or, or_true, true_and, and_true, Bool.and_true, Bool.true_and, Bool.or_false, Bool.false_or, Bool.not_false, Bool.not_true, Bool.or_true, Bool.true_or, decide_true, decide_false, wFor, wRng1, wRng2, wLc, wSeqI, items, wEnumX, wCallO, wNever, noOwn, List.all_cons, List.all_nil, wipeS, Bool.and_self, decide_eq_true_eq, atI0a, atI0b, atI0c, atI1b, atI1c, atI2c]
  rw [hat]
  exact h x _ (List.mem_of_getElem? hx) hp'
end DL

set_option Elab.async false
set_option linter.all false
set_option maxRecDepth 100000
set_option maxHeartbeats 4000000
set_option exponentiation.threshold 3000
namespace DL
open PySem L2
def wPot (M1 C1 M2 M3 C2 : Int) : Ws := (wSeq (wSetF 2 (wIf (wB (wBin (dI0 fun i j => .bl (decide (i < j))) (wVar 1) (wCB dLen (wCons (wVar 0) wNil)))) (wBin dIx (wVar 0) (wVar 1)) (wBin dAdd (wBin dAdd (wBin (dI CPos fun i j => .int (i % j)) (wCB dSum (wCons (wSl (wVar 0) wNoPart (wPart (wC (.int 1)))) wNil)) (wC (.int 1000003))) (wBin (dI CMulX fun i j => .int (i * j)) (wC (.int M1)) (wVar 1))) (wC (.int C1)))))
  (wSeq (wSetF 3 (wBin (dI CMulX fun i j => .int (i * j)) (wBin (dI CPos fun i j => .int (i % j)) (wCB dInt (wCons (wCB dAbs (wCons (wVar 2) wNil)) wNil)) (wBin (dI CPowX fun i j => .int (i ^ j.toNat)) (wBin (dI CPowX fun i j => .int (i ^ j.toNat)) (wC (.int 10)) (wC (.int 60))) (wC (.int 5)))) (wCB dInt (wCons (wBin (dI0 fun i j => .bl (decide (j ≤ i))) (wCB dAbs (wCons (wVar 2) wNil)) (wBin (dI CPowX fun i j => .int (i ^ j.toNat)) (wC (.int 10)) (wC (.int 18)))) wNil))))
  (wSeq (wSetF 4 (wBin (dI CPos fun i j => .int (i % j)) (wCB dInt (wCons (wVar 2) wNil)) (wC (.int 2305843009213693951))))
  (wRet (wLst (wCons (wVar 3) (wCons (wBin (dI CPos fun i j => .int (i % j)) (wCB dInt (wCons (wBin dAdd (wBin dAdd (wBin (dI CMulX fun i j => .int (i * j)) (wVar 4) (wC (.int M2))) (wBin (dI CMulX fun i j => .int (i * j)) (wBin (dI CMulX fun i j => .int (i * j)) (wC (.int M3)) (wVar 1)) (wVar 1))) (wC (.int C2))) wNil)) (wC (.int 2305843009213693921))) (wCons (wC (.int 0)) wNil))))))))
def FPot (M1 C1 M2 M3 C2 : Int) : Fd := mkF (pin [0, 1]) 5 (fun _ => wPot M1 C1 M2 M3 C2)
def PC (M1 C1 M2 M3 C2 : Int) : Prop := (0 ≤ M1 ∧ M1 ≤ 1000000) ∧ (0 ≤ C1 ∧ C1 ≤ 1000000) ∧ (0 ≤ M2 ∧ M2 ≤ 1000000) ∧ (0 ≤ M3 ∧ M3 ≤ 1000000) ∧ (0 ≤ C2 ∧ C2 ≤ 1000000)
theorem pot_ok {M1 C1 M2 M3 C2 : Int} {ns : List Int} {p : Int} {Q : Rz → Sl → Prop} {Ξ : Xp} (hP : PC M1 C1 M2 M3 C2) (h0 : 0 ≤ p) (h2 : p ≤ 100)
    (h : ∀ s o as, s = SD.own o → Pot 0 s → Q (.own o) as) : FPot M1 C1 M2 M3 C2 [.dat (.scr ns), .dat (.int p)] Q Ξ := by
  obtain ⟨⟨p1, p2⟩, ⟨c1, c2⟩, ⟨m1, m2⟩, ⟨m3, m4⟩, ⟨e1, e2⟩⟩ := hP
  unfold FPot mkF
  refine ⟨pinned2 (fun o z => by cases z), ?_⟩
  have small : ∀ {x y : Int}, 0 ≤ x → x ≤ 1000000 → 0 ≤ y → y ≤ 1000000 → 0 ≤ x * y ∧ x * y ≤ 1000000000000 := fun {x y} a b c d => ⟨Int.mul_nonneg a c, by
    calc x * y ≤ 1000000 * 1000000 := Int.mul_le_mul b d c (by decide)
      _ = 1000000000000 := by decide⟩
  have tail : ∀ z : Int, (wSeq (wSetF 3 (wBin (dI CMulX fun i j => .int (i * j)) (wBin (dI CPos fun i j => .int (i % j)) (wCB dInt (wCons (wCB dAbs (wCons (wVar 2) wNil)) wNil)) (wBin (dI CPowX fun i j => .int (i ^ j.toNat)) (wBin (dI CPowX fun i j => .int (i ^ j.toNat)) (wC (.int 10)) (wC (.int 60))) (wC (.int 5)))) (wCB dInt (wCons (wBin (dI0 fun i j => .bl (decide (j ≤ i))) (wCB dAbs (wCons (wVar 2) wNil)) (wBin (dI CPowX fun i j => .int (i ^ j.toNat)) (wC (.int 10)) (wC (.int 18)))) wNil))))
  (wSeq (wSetF 4 (wBin (dI CPos fun i j => .int (i % j)) (wCB dInt (wCons (wVar 2) wNil)) (wC (.int 2305843009213693951))))
  (wRet (wLst (wCons (wVar 3) (wCons (wBin (dI CPos fun i j => .int (i % j)) (wCB dInt (wCons (wBin dAdd (wBin dAdd (wBin (dI CMulX fun i j => .int (i * j)) (wVar 4) (wC (.int M2))) (wBin (dI CMulX fun i j => .int (i * j)) (wBin (dI CMulX fun i j => .int (i * j)) (wC (.int M3)) (wVar 1)) (wVar 1))) (wC (.int C2))) wNil)) (wC (.int 2305843009213693921))) (wCons (wC (.int 0)) wNil))))))) { nx := fun ρ => Q (.dat .non) (fin (pin [0, 1]) [.dat (.scr ns), .dat (.int p)] ρ), rt := fun r ρ => leave (pin [0, 1]) 2 r ρ fun r ρ => Q r (fin (pin [0, 1]) [.dat (.scr ns), .dat (.int p)] ρ) } [.dat (.scr ns), .dat (.int p), .dat (.int z), .emp, .emp] := fun z => by
    simp only [wSeq, wSetF, wSet, wRet, wB, wBin, wUn, wCB, wCons, wNil, wVar, wC, dI, dI0, dInt, dAbs, dAdd, look, looks, ok, Rz.pd, SD.pd, OD.pd, Rz.cold, Rz.cool, warm, pdsOf, frz, frzAll, List.length_cons, List.length_nil, Nat.reduceAdd, List.getElem?_cons_zero, List.getElem?_cons_succ, Option.bind_some, List.set_cons_zero, List.set_cons_succ, true_or, or_true, true_and, wLst, leave]
    have e5 : (((10 : Int) ^ Int.toNat 60) ^ Int.toNat 5) < 2 ^ 1000 := by decide +kernel
    have e0 : (0 : Int) < (((10 : Int) ^ Int.toNat 60) ^ Int.toNat 5) := by decide +kernel
    have b10 : Sm ((10 : Int) ^ Int.toNat 60) := by unfold Sm; decide +kernel
    generalize hM : (((10 : Int) ^ Int.toNat 60) ^ Int.toNat 5) = M at e5 e0 ⊢
    generalize (if z < 0 then -z else z) = y
    generalize hg : (if decide ((10 : Int) ^ Int.toNat 18 ≤ y) = true then (1 : Int) else 0) = g
    have hg' : g = 0 ∨ g = 1 := by
      rw [← hg]
      split
      · exact .inr rfl
      · exact .inl rfl
    obtain ⟨u0, u1⟩ := emod_rng (x := y) e0
    have bu : Sm (y % M) := by
      have h1 : y % M < 2 ^ 1000 := Int.lt_trans u1 e5
      have h2 : (2 : Nat) ^ 1000 < 2 ^ 2000 := by decide +kernel
      have h3 : ((y % M).natAbs : Int) = y % M := Int.natAbs_of_nonneg u0
      have h4 : (y % M).natAbs < 2 ^ 1000 := by
        have : ((y % M).natAbs : Int) < ((2 ^ 1000 : Nat) : Int) := by rw [h3]; exact Int.lt_of_lt_of_le h1 (by decide +kernel)
        exact Int.ofNat_lt.mp this
      exact Nat.lt_trans h4 h2
    have bg : Sm g := sm_big (by rcases hg' with e | e <;> (rw [e]; decide))
    obtain ⟨v0, v1⟩ := emod_rng (x := z) (n := 2305843009213693951) (by decide)
    obtain ⟨w0, w1⟩ := emod_rng (x := z % 2305843009213693951 * M2 + M3 * p * p + C2) (n := 2305843009213693921) (by decide)
    obtain ⟨s0, s1⟩ := small m3 m4 h0 (by omega : p ≤ 1000000)
    refine ⟨powX (sm_big (by decide)) (by decide) (by decide), powX b10 (by decide) (by decide), e0, powX (sm_big (by decide)) (by decide) (by decide), mulX bu bg, by unfold CPos; decide, mulX (sm_big (by omega)) (sm_big (by omega)), mulX (sm_big (by omega)) (sm_big (by omega)), mulX (sm_big (by omega)) (sm_big (by omega)), by unfold CPos; decide, by rw [sizeLine_eq]; decide, ?_⟩
    refine h _ _ _ rfl ⟨_, _, _, rfl, ?_, w0, by omega, by decide, by decide⟩
    rcases hg' with e | e <;> rw [e]
    · omega
    · omega
  unfold wPot
  simp only [List.length_cons, List.length_nil, Nat.reduceAdd, Nat.reduceSub, List.replicate, List.cons_append, List.nil_append]
  by_cases hp : p < ns.length
  · obtain ⟨z, hat, hz⟩ := atI_of (xs := ns) h0 hp
    have := tail z
    rw [wSeq, wSetF]
    simp only [wIf, wB, wBin, wCB, wCons, wNil, wVar, wC, dI, dI0, dIx, dLen, look, looks, ok, Rz.pd, SD.pd, OD.pd, Rz.cold, Rz.cool, warm, pdsOf, frz, frzAll, List.getElem?_cons_zero, List.getElem?_cons_succ, Option.bind_some, List.set_cons_zero, List.set_cons_succ, true_or, true_and, decide_eq_true hp, hat]
    exact this
  · have := tail ((cutP ns none (some 1)).sum % 1000003 + M1 * p + C1)
    rw [wSeq, wSetF]
    simp only [wIf, wB, wBin, wCB, wCons, wNil, wVar, wC, wSl, wNoPart, wPart, dSl, dSum, dAdd, dI, dI0, dIx, dLen, look, looks, ok, Rz.pd, SD.pd, OD.pd, Rz.cold, Rz.cool, warm, pdsOf, frz, frzAll, List.getElem?_cons_zero, List.getElem?_cons_succ, Option.bind_some, List.set_cons_zero, List.set_cons_succ, true_or, true_and, decide_eq_false hp, intsOf_map]
    refine ⟨.inr ⟨_, rfl⟩, by unfold CPos; decide, mulX (sm_big (by omega)) (sm_big (by omega)), ?_⟩
    exact this
def wCells : Ws := (wRet (wListRg (wRg1 (wCB dMax2 (wCons (wC (.int 1)) (wCons (wCB dMin2 (wCons (wVar 1) (wCons (wCB dLen (wCons (wVar 0) wNil)) wNil))) wNil))))))
def FCells : Fd := mkF (pin [0, 1]) 2 (fun _ => wCells)
theorem cells_ok {ns : List Int} {m : Int} {Q : Rz → Sl → Prop} {Ξ : Xp} (hm : 1 ≤ m ∧ m ≤ 100) (h : ∀ n : Nat, 1 ≤ n → (n : Int) ≤ m → Q (.own (.lst (rgP 0 n))) [.dat (.scr ns), .dat (.int m)]) : FCells [.dat (.scr ns), .dat (.int m)] Q Ξ := by
  unfold FCells mkF
  refine ⟨pinned2 (fun o z => by cases z), ?_⟩
  simp only [wCells, wRet, wListRg, wRg1, wCB, wCons, wNil, wVar, wC, dMax2, dMin2, dLen, look, looks, ok, Rz.pd, SD.pd, Rz.cold, Rz.cool, warm, pdsOf, List.length_cons, List.length_nil, Nat.reduceAdd, Nat.reduceSub, List.replicate, List.cons_append, List.nil_append, List.getElem?_cons_zero, List.getElem?_cons_succ, Option.bind_some, true_or, true_and, leave]
  generalize hk : (if (if (ns.length : Int) < m then (ns.length : Int) else m) > 1 then if (ns.length : Int) < m then (ns.length : Int) else m else 1) = k
  have h1 : 1 ≤ k ∧ k ≤ m := by
    rw [← hk]
    split <;> split <;> omega
  refine ⟨RgOk.of_le (by decide) (by omega) (by decide) (by omega), ?_⟩
  have := h (k - 0).toNat (by omega) (by omega)
  exact this
/-- a right made of each cell's pot -/
def RightOk (F : Fd) : Prop := ∀ (s : SD) (Q : Rz → Sl → Prop), Pot 0 s → (∀ as, Q (.dat (.bl true)) as) → F [s] Q noX
def wLawA (n : Int) (Fp Fr : Fd) : Ws := (wRet (wCB dAll (wCons (wLc [1] (wSeqI (wCall 2 FCells noX (wCons (wVar 0) (wCons (wC (.int n)) wNil)))) (wName 1) wYes (wCallO Fr noX (wCall 2 Fp noX (wCons (wVar 0) (wCons (wVar 1) wNil))))) wNil)))
theorem bools_rep : ∀ n : Nat, bools (List.replicate n (.bl true)) = some (List.replicate n true)
  | 0 => rfl
  | n + 1 => by
    show (match bools (List.replicate n (.bl true)) with | some ns => some (true :: ns) | none => none) = _
    rw [bools_rep n]; rfl
theorem all_rep (n : Nat) : (List.replicate n true).all id = true := by simp [List.all_replicate]
theorem lawA_ok {M1 C1 M2 M3 C2 n : Int} {Fr : Fd} {ns : List Int} (hP : PC M1 C1 M2 M3 C2) (hn : 1 ≤ n ∧ n ≤ 100) (hR : RightOk Fr) : mkF (pin [0]) 2 (fun _ => wLawA n (FPot M1 C1 M2 M3 C2) Fr) [.dat (.scr ns)] (fun r _ => r = .dat (.bl true)) noX := by
  unfold mkF
  refine ⟨pinned1, ?_⟩
  have loop : ∀ (m k : Nat) (s : SD) (Q : List PD → Sl → Prop), ((k + m : Nat) : Int) ≤ 100 → Q (List.replicate (k + m) (.bl true)) [.dat (.scr ns), .emp] →
      compL [1] (wName 1) wYes (wCallO Fr noX (wCall 2 (FPot M1 C1 M2 M3 C2) noX (wCons (wVar 0) (wCons (wVar 1) wNil)))) ((List.range' k m).map fun i => PD.int (0 + (i : Nat))) (List.replicate k (.bl true)) Q [.dat (.scr ns), .emp] := by
    intro m
    induction m with
    | zero => intro k s Q hk h; exact h
    | succ m ih =>
      intro k s Q hk h
      rw [List.range'_succ, List.map_cons]
      simp only [compL, wName, wYes, wCallO, wCall, wCons, wNil, wVar, Rz.cold, Rz.cool, warm, true_or, true_and, List.set_cons_zero, List.set_cons_succ, List.getElem?_cons_zero, List.getElem?_cons_succ, List.length_cons, List.length_nil, Nat.reduceAdd, onceB, newBor, Bool.and_self, List.map_cons, List.map_nil, argOf]
      refine pot_ok hP (by omega) (by omega) fun sp o as eo hp => ?_
      subst eo
      refine hR _ _ hp fun as' => ?_
      simp only [frz, frzAll, ok]
      refine ⟨.inl trivial, by rw [List.length_replicate]; exact sz' (by omega), ?_⟩
      have e : List.replicate k (PD.bl true) ++ [.bl true] = List.replicate (k + 1) (.bl true) := by rw [List.replicate_succ']
      rw [e]
      have : k + (m + 1) = (k + 1) + m := by omega
      rw [this] at h hk
      exact ih (k + 1) .emp Q hk h
  unfold wLawA
  simp only [wRet, wCB, wCons, wNil, wVar, wC, wLc, wSeqI, wCall, Rz.cold, Rz.cool, warm, true_or, true_and, List.length_cons, List.length_nil, Nat.reduceAdd, Nat.reduceSub, List.replicate, List.cons_append, List.nil_append, List.getElem?_cons_zero, List.getElem?_cons_succ, onceB, newBor, Bool.and_self, List.map_cons, List.map_nil, argOf]
  refine cells_ok hn fun j h1 h3 => ?_
  refine And.intro (Or.inr ⟨_, rfl⟩) ?_
  have e : rgP 0 j = (List.range' 0 j).map fun i => PD.int (0 + (i : Nat)) := by unfold rgP; rw [List.range_eq_range']
  show noOwn [.dat (.scr ns), .emp] [1] = true ∧ compL [1] (wName 1) wYes _ (rgP 0 j) [] _ [.dat (.scr ns), .emp]
  rw [e]
  refine ⟨rfl, loop j 0 .emp _ (by omega) ?_⟩
  rw [Nat.zero_add]
  refine And.intro (Or.inr ⟨_, rfl⟩) ?_
  show ok ((bools (List.replicate j (.bl true)))) _
  rw [bools_rep]
  simp only [ok, leave, all_rep]
end DL

set_option Elab.async false
set_option linter.all false
set_option maxRecDepth 100000
set_option maxHeartbeats 4000000
set_option exponentiation.threshold 3000
namespace DL
open PySem L2
/-! ### defs of the program that many laws reach -/
/-- a kind that isinstance knows -/
def Kd (d : PD) : Prop := ∃ t, d.ty = some t
def isNum : PD → Bool
  | .int _ => true
  | _ => false
def within (d : PD) (lo hi : Int) : Bool := match d with
  | .int i => decide (lo ≤ i) && decide (i ≤ hi)
  | _ => false
def wIsNumber : Ws := (wRet (wAndV (wIsi "int" (wVar 0)) (wNotV (wIsi "bool" (wVar 0)))))
def FIsNumber : Fd := mkF (pin [0]) 1 (fun _ => wIsNumber)
theorem isNumber_ok {d : PD} {Q : Rz → Sl → Prop} {Ξ : Xp} (hd : Kd d) (h : Q (.dat (.bl (isNum d))) [.dat d]) : FIsNumber [.dat d] Q Ξ := by
  unfold FIsNumber mkF
  refine ⟨pinned1, ?_⟩
  obtain ⟨t, ht⟩ := hd
  cases d <;> first
    | (cases ht; done)
    | (simp only [wIsNumber, wSeq, wNext, wIfS, wSetF, wSet, into, wSetIx, wRet, wRetN, wDrop, wB, wBin, wUn, wCB, wCons, wNil, wVar, wC, wIf, wAnd, wOr, wNot, wAndV, wOrV, wNotV, wTup, wLst, wSl, wNoPart, wPart, wChain, wUnp, wgTup, wgCons, wgNil, wName, wIsi, wListRg, wRg1, wRg2, wTupRg, wPuts, puts, Rz.sd, wConsH, wAppend, wExtend, ownL, dI, dI0, dIx, dInt, dAbs, dLen, dMax2, dMin2, dSum, dAll, dAny, dList, dTuple, dAdd, dNeg, dIsN, dNotN, PD.isN, dSl, look, looks, ok, Rz.pd, SD.pd, OD.pd, Rz.cold, Rz.cool, warm, pdsOf, frz, frzAll, leave, argOf, onceB, newBor, isBor, ty_non, ty_bl, ty_int, ty_str, ty_lst, ty_scr, ty_tup, ty_dct, isa, String.reduceBEq, beq_self_eq_true, Bool.false_and, Bool.and_false, Bool.not_true, Bool.or_self, wYes, wCall, backS_0, backS_1, backS_2, backS_3, backS_4, backS_o0, backS_o1, backS_o2, backS_o3, dEq_int, dEq_str, dNeX_int, dNeX_str, List.length_cons, List.length_nil, List.cons_append, List.nil_append, List.replicate, Nat.reduceAdd, Nat.reduceSub, List.getElem?_cons_zero, List.getElem?_cons_succ, Option.bind_some, List.set_cons_zero, List.set_cons_succ, List.map_cons, List.map_nil, List.any_cons, List.any_nil, List.getD_cons_zero, List.getD_cons_succ, true_or, or_true, true_and, and_true, Bool.and_true, Bool.true_and, Bool.or_false, Bool.false_or, Bool.not_false, Bool.not_true, Bool.or_true, Bool.true_or, decide_true, decide_false, wFor, wRng1, wRng2, wLc, wSeqI, items, wEnumX, wCallO, wNever, noOwn, List.all_cons, List.all_nil, wipeS, Bool.and_self, decide_eq_true_eq, atI0a, atI0b, atI0c, atI1b, atI1c, atI2c]; exact h)
def wIsWithin : Ws := (wRet (wAndV (wCall 1 FIsNumber noX (wCons (wVar 0) wNil)) (wChain (dI0 fun i j => .bl (decide (i ≤ j))) (dI0 fun i j => .bl (decide (i ≤ j))) (wVar 1) (wVar 0) (wVar 2))))
def FIsWithin : Fd := mkF (pin [0, 1, 2]) 3 (fun _ => wIsWithin)
theorem pinnedD {xs : List PD} {T : Nat → Bool} : pinned T (xs.map SD.dat) := fun i o e => by
  rw [List.getElem?_map] at e
  cases h : xs[i]? with
  | none => rw [h] at e; cases e
  | some x => rw [h] at e; cases e
theorem isWithin_ok {d : PD} {lo hi : Int} {Q : Rz → Sl → Prop} {Ξ : Xp} (hd : Kd d) (h : Q (.dat (.bl (within d lo hi))) [.dat d, .dat (.int lo), .dat (.int hi)]) : FIsWithin [.dat d, .dat (.int lo), .dat (.int hi)] Q Ξ := by
  unfold FIsWithin mkF
  refine ⟨pinnedD (xs := [d, .int lo, .int hi]), ?_⟩
  simp only [wIsWithin, wSeq, wNext, wIfS, wSetF, wSet, into, wSetIx, wRet, wRetN, wDrop, wB, wBin, wUn, wCB, wCons, wNil, wVar, wC, wIf, wAnd, wOr, wNot, wAndV, wOrV, wNotV, wTup, wLst, wSl, wNoPart, wPart, wChain, wUnp, wgTup, wgCons, wgNil, wName, wIsi, wListRg, wRg1, wRg2, wTupRg, wPuts, puts, Rz.sd, wConsH, wAppend, wExtend, ownL, dI, dI0, dIx, dInt, dAbs, dLen, dMax2, dMin2, dSum, dAll, dAny, dList, dTuple, dAdd, dNeg, dIsN, dNotN, PD.isN, dSl, look, looks, ok, Rz.pd, SD.pd, OD.pd, Rz.cold, Rz.cool, warm, pdsOf, frz, frzAll, leave, argOf, onceB, newBor, isBor, ty_non, ty_bl, ty_int, ty_str, ty_lst, ty_scr, ty_tup, ty_dct, isa, String.reduceBEq, beq_self_eq_true, Bool.false_and, Bool.and_false, Bool.not_true, Bool.or_self, wYes, wCall, backS_0, backS_1, backS_2, backS_3, backS_4, backS_o0, backS_o1, backS_o2, backS_o3, dEq_int, dEq_str, dNeX_int, dNeX_str, List.length_cons, List.length_nil, List.cons_append, List.nil_append, List.replicate, Nat.reduceAdd, Nat.reduceSub, List.getElem?_cons_zero, List.getElem?_cons_succ, Option.bind_some, List.set_cons_zero, List.set_cons_succ, List.map_cons, List.map_nil, List.any_cons, List.any_nil, List.getD_cons_zero, List.getD_cons_succ, true_or, or_true, true_and, and_true, Bool.and_true, Bool.true_and, Bool.or_false, Bool.false_or, Bool.not_false, Bool.not_true, Bool.or_true, Bool.true_or, decide_true, decide_false, wFor, wRng1, wRng2, wLc, wSeqI, items, wEnumX, wCallO, wNever, noOwn, List.all_cons, List.all_nil, wipeS, Bool.and_self, decide_eq_true_eq, atI0a, atI0b, atI0c, atI1b, atI1c, atI2c]
  refine isNumber_ok hd ?_
  cases d with
  | int i =>
    simp only [isNum, wSeq, wNext, wIfS, wSetF, wSet, into, wSetIx, wRet, wRetN, wDrop, wB, wBin, wUn, wCB, wCons, wNil, wVar, wC, wIf, wAnd, wOr, wNot, wAndV, wOrV, wNotV, wTup, wLst, wSl, wNoPart, wPart, wChain, wUnp, wgTup, wgCons, wgNil, wName, wIsi, wListRg, wRg1, wRg2, wTupRg, wPuts, puts, Rz.sd, wConsH, wAppend, wExtend, ownL, dI, dI0, dIx, dInt, dAbs, dLen, dMax2, dMin2, dSum, dAll, dAny, dList, dTuple, dAdd, dNeg, dIsN, dNotN, PD.isN, dSl, look, looks, ok, Rz.pd, SD.pd, OD.pd, Rz.cold, Rz.cool, warm, pdsOf, frz, frzAll, leave, argOf, onceB, newBor, isBor, ty_non, ty_bl, ty_int, ty_str, ty_lst, ty_scr, ty_tup, ty_dct, isa, String.reduceBEq, beq_self_eq_true, Bool.false_and, Bool.and_false, Bool.not_true, Bool.or_self, wYes, wCall, backS_0, backS_1, backS_2, backS_3, backS_4, backS_o0, backS_o1, backS_o2, backS_o3, dEq_int, dEq_str, dNeX_int, dNeX_str, List.length_cons, List.length_nil, List.cons_append, List.nil_append, List.replicate, Nat.reduceAdd, Nat.reduceSub, List.getElem?_cons_zero, List.getElem?_cons_succ, Option.bind_some, List.set_cons_zero, List.set_cons_succ, List.map_cons, List.map_nil, List.any_cons, List.any_nil, List.getD_cons_zero, List.getD_cons_succ, true_or, or_true, true_and, and_true, Bool.and_true, Bool.true_and, Bool.or_false, Bool.false_or, Bool.not_false, Bool.not_true, Bool.or_true, Bool.true_or, decide_true, decide_false, wFor, wRng1, wRng2, wLc, wSeqI, items, wEnumX, wCallO, wNever, noOwn, List.all_cons, List.all_nil, wipeS, Bool.and_self, decide_eq_true_eq, atI0a, atI0b, atI0c, atI1b, atI1c, atI2c]
    by_cases h1 : lo ≤ i
    · simp only [decide_eq_true h1, wSeq, wNext, wIfS, wSetF, wSet, into, wSetIx, wRet, wRetN, wDrop, wB, wBin, wUn, wCB, wCons, wNil, wVar, wC, wIf, wAnd, wOr, wNot, wAndV, wOrV, wNotV, wTup, wLst, wSl, wNoPart, wPart, wChain, wUnp, wgTup, wgCons, wgNil, wName, wIsi, wListRg, wRg1, wRg2, wTupRg, wPuts, puts, Rz.sd, wConsH, wAppend, wExtend, ownL, dI, dI0, dIx, dInt, dAbs, dLen, dMax2, dMin2, dSum, dAll, dAny, dList, dTuple, dAdd, dNeg, dIsN, dNotN, PD.isN, dSl, look, looks, ok, Rz.pd, SD.pd, OD.pd, Rz.cold, Rz.cool, warm, pdsOf, frz, frzAll, leave, argOf, onceB, newBor, isBor, ty_non, ty_bl, ty_int, ty_str, ty_lst, ty_scr, ty_tup, ty_dct, isa, String.reduceBEq, beq_self_eq_true, Bool.false_and, Bool.and_false, Bool.not_true, Bool.or_self, wYes, wCall, backS_0, backS_1, backS_2, backS_3, backS_4, backS_o0, backS_o1, backS_o2, backS_o3, dEq_int, dEq_str, dNeX_int, dNeX_str, List.length_cons, List.length_nil, List.cons_append, List.nil_append, List.replicate, Nat.reduceAdd, Nat.reduceSub, List.getElem?_cons_zero, List.getElem?_cons_succ, Option.bind_some, List.set_cons_zero, List.set_cons_succ, List.map_cons, List.map_nil, List.any_cons, List.any_nil, List.getD_cons_zero, List.getD_cons_succ, true_or, or_true, true_and, and_true, Bool.and_true, Bool.true_and, Bool.or_false, Bool.false_or, Bool.not_false, Bool.not_true, Bool.or_true, Bool.true_or, decide_true, decide_false, wFor, wRng1, wRng2, wLc, wSeqI, items, wEnumX, wCallO, wNever, noOwn, List.all_cons, List.all_nil, wipeS, Bool.and_self, decide_eq_true_eq, atI0a, atI0b, atI0c, atI1b, atI1c, atI2c]
      have e : within (.int i) lo hi = decide (i ≤ hi) := by simp only [within, decide_eq_true h1, Bool.true_and]
      rw [e] at h; exact h
    · simp only [decide_eq_false h1, wSeq, wNext, wIfS, wSetF, wSet, into, wSetIx, wRet, wRetN, wDrop, wB, wBin, wUn, wCB, wCons, wNil, wVar, wC, wIf, wAnd, wOr, wNot, wAndV, wOrV, wNotV, wTup, wLst, wSl, wNoPart, wPart, wChain, wUnp, wgTup, wgCons, wgNil, wName, wIsi, wListRg, wRg1, wRg2, wTupRg, wPuts, puts, Rz.sd, wConsH, wAppend, wExtend, ownL, dI, dI0, dIx, dInt, dAbs, dLen, dMax2, dMin2, dSum, dAll, dAny, dList, dTuple, dAdd, dNeg, dIsN, dNotN, PD.isN, dSl, look, looks, ok, Rz.pd, SD.pd, OD.pd, Rz.cold, Rz.cool, warm, pdsOf, frz, frzAll, leave, argOf, onceB, newBor, isBor, ty_non, ty_bl, ty_int, ty_str, ty_lst, ty_scr, ty_tup, ty_dct, isa, String.reduceBEq, beq_self_eq_true, Bool.false_and, Bool.and_false, Bool.not_true, Bool.or_self, wYes, wCall, backS_0, backS_1, backS_2, backS_3, backS_4, backS_o0, backS_o1, backS_o2, backS_o3, dEq_int, dEq_str, dNeX_int, dNeX_str, List.length_cons, List.length_nil, List.cons_append, List.nil_append, List.replicate, Nat.reduceAdd, Nat.reduceSub, List.getElem?_cons_zero, List.getElem?_cons_succ, Option.bind_some, List.set_cons_zero, List.set_cons_succ, List.map_cons, List.map_nil, List.any_cons, List.any_nil, List.getD_cons_zero, List.getD_cons_succ, true_or, or_true, true_and, and_true, Bool.and_true, Bool.true_and, Bool.or_false, Bool.false_or, Bool.not_false, Bool.not_true, Bool.or_true, Bool.true_or, decide_true, decide_false, wFor, wRng1, wRng2, wLc, wSeqI, items, wEnumX, wCallO, wNever, noOwn, List.all_cons, List.all_nil, wipeS, Bool.and_self, decide_eq_true_eq, atI0a, atI0b, atI0c, atI1b, atI1c, atI2c]
      have e : within (.int i) lo hi = false := by simp only [within, decide_eq_false h1, Bool.false_and]
      rw [e] at h; exact h
  | _ => simp only [isNum, wSeq, wNext, wIfS, wSetF, wSet, into, wSetIx, wRet, wRetN, wDrop, wB, wBin, wUn, wCB, wCons, wNil, wVar, wC, wIf, wAnd, wOr, wNot, wAndV, wOrV, wNotV, wTup, wLst, wSl, wNoPart, wPart, wChain, wUnp, wgTup, wgCons, wgNil, wName, wIsi, wListRg, wRg1, wRg2, wTupRg, wPuts, puts, Rz.sd, wConsH, wAppend, wExtend, ownL, dI, dI0, dIx, dInt, dAbs, dLen, dMax2, dMin2, dSum, dAll, dAny, dList, dTuple, dAdd, dNeg, dIsN, dNotN, PD.isN, dSl, look, looks, ok, Rz.pd, SD.pd, OD.pd, Rz.cold, Rz.cool, warm, pdsOf, frz, frzAll, leave, argOf, onceB, newBor, isBor, ty_non, ty_bl, ty_int, ty_str, ty_lst, ty_scr, ty_tup, ty_dct, isa, String.reduceBEq, beq_self_eq_true, Bool.false_and, Bool.and_false, Bool.not_true, Bool.or_self, wYes, wCall, backS_0, backS_1, backS_2, backS_3, backS_4, backS_o0, backS_o1, backS_o2, backS_o3, dEq_int, dEq_str, dNeX_int, dNeX_str, List.length_cons, List.length_nil, List.cons_append, List.nil_append, List.replicate, Nat.reduceAdd, Nat.reduceSub, List.getElem?_cons_zero, List.getElem?_cons_succ, Option.bind_some, List.set_cons_zero, List.set_cons_succ, List.map_cons, List.map_nil, List.any_cons, List.any_nil, List.getD_cons_zero, List.getD_cons_succ, true_or, or_true, true_and, and_true, Bool.and_true, Bool.true_and, Bool.or_false, Bool.false_or, Bool.not_false, Bool.not_true, Bool.or_true, Bool.true_or, decide_true, decide_false, wFor, wRng1, wRng2, wLc, wSeqI, items, wEnumX, wCallO, wNever, noOwn, List.all_cons, List.all_nil, wipeS, Bool.and_self, decide_eq_true_eq, atI0a, atI0b, atI0c, atI1b, atI1c, atI2c]; exact h
/-- a service -/
def isWord (w : Str) : Prop := w = "queue" ∨ w = "order" ∨ w = "any"
theorem sok_queue : PyData.strOk ("queue" : Str) = true := by decide +kernel
theorem sok_order : PyData.strOk ("order" : Str) = true := by decide +kernel
theorem sok_any : PyData.strOk ("any" : Str) = true := by decide +kernel
theorem qq : decide (("queue" : Str) = "queue") = true := by decide +kernel
theorem oo : decide (("order" : Str) = "order") = true := by decide +kernel
theorem aa : decide (("any" : Str) = "any") = true := by decide +kernel
theorem qo : decide (("queue" : Str) = "order") = false := by decide +kernel
theorem qa : decide (("queue" : Str) = "any") = false := by decide +kernel
theorem oq : decide (("order" : Str) = "queue") = false := by decide +kernel
theorem oa : decide (("order" : Str) = "any") = false := by decide +kernel
theorem aq : decide (("any" : Str) = "queue") = false := by decide +kernel
theorem ao : decide (("any" : Str) = "order") = false := by decide +kernel
abbrev cWORDS : PD := .tup [.str "queue", .str "order", .str "any"]
def sv (w : Str) (n : Int) : PD := .tup [.str w, .int n]
def Sv (w : Str) (n : Int) : Prop := isWord w ∧ 1 ≤ n ∧ n ≤ 4
def wIsService : Ws := (wSeq (wIfS (wOr (wNot (wB (wIsi "tuple" (wVar 0)))) (wB (wBin dNeX (wCB dLen (wCons (wVar 0) wNil)) (wC (.int 2))))) (wRet (wC (.bl false))) wNext)
  (wSeq (wUnp (wVar 0) (wgTup 2 (wgCons (wName 1) (wgCons (wName 2) wgNil))))
  (wRet (wAndV (wIsi "str" (wVar 1)) (wAndV (wBin (dIn false) (wVar 1) (wC cWORDS)) (wCall 3 FIsWithin noX (wCons (wVar 2) (wCons (wC (.int 1)) (wCons (wC (.int 4)) wNil)))))))))
def FIsService : Fd := mkF (pin [0]) 3 (fun _ => wIsService)
theorem inWords {w : Str} (h : isWord w) : ∀ k : Rz → Prop, dIn false (.str w) cWORDS k = k (.dat (.bl true)) := fun k => by
  have e : ([PD.str "queue", .str "order", .str "any"].any fun y => PyData.eqv y.py (PD.str w).py) = true := by
    rcases h with rfl | rfl | rfl <;> decide +kernel
  show (PD.flat (.str w) = true ∧ _ ∧ k (.dat (.bl (if false = true then _ else _)))) = _
  rw [if_neg Bool.false_ne_true, e]
  simp [PD.flat]
theorem isService_ok {w : Str} {n : Int} {Q : Rz → Sl → Prop} {Ξ : Xp} (hs : Sv w n) (h : Q (.dat (.bl true)) [.dat (sv w n)]) : FIsService [.dat (sv w n)] Q Ξ := by
  obtain ⟨hw, h1, h2⟩ := hs
  unfold FIsService mkF
  refine ⟨pinned1, ?_⟩
  simp only [wIsService, sv, wSeq, wNext, wIfS, wSetF, wSet, into, wSetIx, wRet, wRetN, wDrop, wB, wBin, wUn, wCB, wCons, wNil, wVar, wC, wIf, wAnd, wOr, wNot, wAndV, wOrV, wNotV, wTup, wLst, wSl, wNoPart, wPart, wChain, wUnp, wgTup, wgCons, wgNil, wName, wIsi, wListRg, wRg1, wRg2, wTupRg, wPuts, puts, Rz.sd, wConsH, wAppend, wExtend, ownL, dI, dI0, dIx, dInt, dAbs, dLen, dMax2, dMin2, dSum, dAll, dAny, dList, dTuple, dAdd, dNeg, dIsN, dNotN, PD.isN, dSl, look, looks, ok, Rz.pd, SD.pd, OD.pd, Rz.cold, Rz.cool, warm, pdsOf, frz, frzAll, leave, argOf, onceB, newBor, isBor, ty_non, ty_bl, ty_int, ty_str, ty_lst, ty_scr, ty_tup, ty_dct, isa, String.reduceBEq, beq_self_eq_true, Bool.false_and, Bool.and_false, Bool.not_true, Bool.or_self, wYes, wCall, backS_0, backS_1, backS_2, backS_3, backS_4, backS_o0, backS_o1, backS_o2, backS_o3, dEq_int, dEq_str, dNeX_int, dNeX_str, List.length_cons, List.length_nil, List.cons_append, List.nil_append, List.replicate, Nat.reduceAdd, Nat.reduceSub, List.getElem?_cons_zero, List.getElem?_cons_succ, Option.bind_some, List.set_cons_zero, List.set_cons_succ, List.map_cons, List.map_nil, List.any_cons, List.any_nil, List.getD_cons_zero, List.getD_cons_succ, true_or, or_true, true_and, and_true, Bool.and_true, Bool.true_and, Bool.or_false, Bool.false_or, Bool.not_false, Bool.not_true, Bool.or_true, Bool.true_or, decide_true, decide_false, wFor, wRng1, wRng2, wLc, wSeqI, items, wEnumX, wCallO, wNever, noOwn, List.all_cons, List.all_nil, wipeS, Bool.and_self, decide_eq_true_eq, atI0a, atI0b, atI0c, atI1b, atI1c, atI2c]
  have e2 : ((2 : Nat) : Int) = 2 := rfl
  simp only [e2, ne_eq, not_true, wSeq, wNext, wIfS, wSetF, wSet, into, wSetIx, wRet, wRetN, wDrop, wB, wBin, wUn, wCB, wCons, wNil, wVar, wC, wIf, wAnd, wOr, wNot, wAndV, wOrV, wNotV, wTup, wLst, wSl, wNoPart, wPart, wChain, wUnp, wgTup, wgCons, wgNil, wName, wIsi, wListRg, wRg1, wRg2, wTupRg, wPuts, puts, Rz.sd, wConsH, wAppend, wExtend, ownL, dI, dI0, dIx, dInt, dAbs, dLen, dMax2, dMin2, dSum, dAll, dAny, dList, dTuple, dAdd, dNeg, dIsN, dNotN, PD.isN, dSl, look, looks, ok, Rz.pd, SD.pd, OD.pd, Rz.cold, Rz.cool, warm, pdsOf, frz, frzAll, leave, argOf, onceB, newBor, isBor, ty_non, ty_bl, ty_int, ty_str, ty_lst, ty_scr, ty_tup, ty_dct, isa, String.reduceBEq, beq_self_eq_true, Bool.false_and, Bool.and_false, Bool.not_true, Bool.or_self, wYes, wCall, backS_0, backS_1, backS_2, backS_3, backS_4, backS_o0, backS_o1, backS_o2, backS_o3, dEq_int, dEq_str, dNeX_int, dNeX_str, List.length_cons, List.length_nil, List.cons_append, List.nil_append, List.replicate, Nat.reduceAdd, Nat.reduceSub, List.getElem?_cons_zero, List.getElem?_cons_succ, Option.bind_some, List.set_cons_zero, List.set_cons_succ, List.map_cons, List.map_nil, List.any_cons, List.any_nil, List.getD_cons_zero, List.getD_cons_succ, true_or, or_true, true_and, and_true, Bool.and_true, Bool.true_and, Bool.or_false, Bool.false_or, Bool.not_false, Bool.not_true, Bool.or_true, Bool.true_or, decide_true, decide_false, wFor, wRng1, wRng2, wLc, wSeqI, items, wEnumX, wCallO, wNever, noOwn, List.all_cons, List.all_nil, wipeS, Bool.and_self, decide_eq_true_eq, atI0a, atI0b, atI0c, atI1b, atI1c, atI2c]
  simp only [inWords hw, wSeq, wNext, wIfS, wSetF, wSet, into, wSetIx, wRet, wRetN, wDrop, wB, wBin, wUn, wCB, wCons, wNil, wVar, wC, wIf, wAnd, wOr, wNot, wAndV, wOrV, wNotV, wTup, wLst, wSl, wNoPart, wPart, wChain, wUnp, wgTup, wgCons, wgNil, wName, wIsi, wListRg, wRg1, wRg2, wTupRg, wPuts, puts, Rz.sd, wConsH, wAppend, wExtend, ownL, dI, dI0, dIx, dInt, dAbs, dLen, dMax2, dMin2, dSum, dAll, dAny, dList, dTuple, dAdd, dNeg, dIsN, dNotN, PD.isN, dSl, look, looks, ok, Rz.pd, SD.pd, OD.pd, Rz.cold, Rz.cool, warm, pdsOf, frz, frzAll, leave, argOf, onceB, newBor, isBor, ty_non, ty_bl, ty_int, ty_str, ty_lst, ty_scr, ty_tup, ty_dct, isa, String.reduceBEq, beq_self_eq_true, Bool.false_and, Bool.and_false, Bool.not_true, Bool.or_self, wYes, wCall, backS_0, backS_1, backS_2, backS_3, backS_4, backS_o0, backS_o1, backS_o2, backS_o3, dEq_int, dEq_str, dNeX_int, dNeX_str, List.length_cons, List.length_nil, List.cons_append, List.nil_append, List.replicate, Nat.reduceAdd, Nat.reduceSub, List.getElem?_cons_zero, List.getElem?_cons_succ, Option.bind_some, List.set_cons_zero, List.set_cons_succ, List.map_cons, List.map_nil, List.any_cons, List.any_nil, List.getD_cons_zero, List.getD_cons_succ, true_or, or_true, true_and, and_true, Bool.and_true, Bool.true_and, Bool.or_false, Bool.false_or, Bool.not_false, Bool.not_true, Bool.or_true, Bool.true_or, decide_true, decide_false, wFor, wRng1, wRng2, wLc, wSeqI, items, wEnumX, wCallO, wNever, noOwn, List.all_cons, List.all_nil, wipeS, Bool.and_self, decide_eq_true_eq, atI0a, atI0b, atI0c, atI1b, atI1c, atI2c]
  refine isWithin_ok ⟨_, rfl⟩ ?_
  have e3 : within (.int n) 1 4 = true := by simp only [within, decide_eq_true h1, decide_eq_true h2, Bool.and_self]
  rw [e3]
  exact h
def wCheckService (F : Fd) (R : Ws) : Ws := (wIfS (wNot (wB (wCall 1 F noX (wCons (wVar 0) wNil)))) R wNext)
def FCheckService (R : Xp → Ws) : Fd := mkF (pin [0]) 1 (fun Ξ => wCheckService FIsService (R Ξ))
theorem checkService_ok {w : Str} {n : Int} {R : Xp → Ws} {Q : Rz → Sl → Prop} {Ξ : Xp} (hs : Sv w n) (h : Q (.dat .non) [.dat (sv w n)]) : FCheckService R [.dat (sv w n)] Q Ξ := by
  unfold FCheckService mkF
  refine ⟨pinned1, ?_⟩
  simp only [wCheckService, wSeq, wNext, wIfS, wSetF, wSet, into, wSetIx, wRet, wRetN, wDrop, wB, wBin, wUn, wCB, wCons, wNil, wVar, wC, wIf, wAnd, wOr, wNot, wAndV, wOrV, wNotV, wTup, wLst, wSl, wNoPart, wPart, wChain, wUnp, wgTup, wgCons, wgNil, wName, wIsi, wListRg, wRg1, wRg2, wTupRg, wPuts, puts, Rz.sd, wConsH, wAppend, wExtend, ownL, dI, dI0, dIx, dInt, dAbs, dLen, dMax2, dMin2, dSum, dAll, dAny, dList, dTuple, dAdd, dNeg, dIsN, dNotN, PD.isN, dSl, look, looks, ok, Rz.pd, SD.pd, OD.pd, Rz.cold, Rz.cool, warm, pdsOf, frz, frzAll, leave, argOf, onceB, newBor, isBor, ty_non, ty_bl, ty_int, ty_str, ty_lst, ty_scr, ty_tup, ty_dct, isa, String.reduceBEq, beq_self_eq_true, Bool.false_and, Bool.and_false, Bool.not_true, Bool.or_self, wYes, wCall, backS_0, backS_1, backS_2, backS_3, backS_4, backS_o0, backS_o1, backS_o2, backS_o3, dEq_int, dEq_str, dNeX_int, dNeX_str, List.length_cons, List.length_nil, List.cons_append, List.nil_append, List.replicate, Nat.reduceAdd, Nat.reduceSub, List.getElem?_cons_zero, List.getElem?_cons_succ, Option.bind_some, List.set_cons_zero, List.set_cons_succ, List.map_cons, List.map_nil, List.any_cons, List.any_nil, List.getD_cons_zero, List.getD_cons_succ, true_or, or_true, true_and, and_true, Bool.and_true, Bool.true_and, Bool.or_false, Bool.false_or, Bool.not_false, Bool.not_true, Bool.or_true, Bool.true_or, decide_true, decide_false, wFor, wRng1, wRng2, wLc, wSeqI, items, wEnumX, wCallO, wNever, noOwn, List.all_cons, List.all_nil, wipeS, Bool.and_self, decide_eq_true_eq, atI0a, atI0b, atI0c, atI1b, atI1c, atI2c]
  refine isService_ok hs ?_
  simp only [wSeq, wNext, wIfS, wSetF, wSet, into, wSetIx, wRet, wRetN, wDrop, wB, wBin, wUn, wCB, wCons, wNil, wVar, wC, wIf, wAnd, wOr, wNot, wAndV, wOrV, wNotV, wTup, wLst, wSl, wNoPart, wPart, wChain, wUnp, wgTup, wgCons, wgNil, wName, wIsi, wListRg, wRg1, wRg2, wTupRg, wPuts, puts, Rz.sd, wConsH, wAppend, wExtend, ownL, dI, dI0, dIx, dInt, dAbs, dLen, dMax2, dMin2, dSum, dAll, dAny, dList, dTuple, dAdd, dNeg, dIsN, dNotN, PD.isN, dSl, look, looks, ok, Rz.pd, SD.pd, OD.pd, Rz.cold, Rz.cool, warm, pdsOf, frz, frzAll, leave, argOf, onceB, newBor, isBor, ty_non, ty_bl, ty_int, ty_str, ty_lst, ty_scr, ty_tup, ty_dct, isa, String.reduceBEq, beq_self_eq_true, Bool.false_and, Bool.and_false, Bool.not_true, Bool.or_self, wYes, wCall, backS_0, backS_1, backS_2, backS_3, backS_4, backS_o0, backS_o1, backS_o2, backS_o3, dEq_int, dEq_str, dNeX_int, dNeX_str, List.length_cons, List.length_nil, List.cons_append, List.nil_append, List.replicate, Nat.reduceAdd, Nat.reduceSub, List.getElem?_cons_zero, List.getElem?_cons_succ, Option.bind_some, List.set_cons_zero, List.set_cons_succ, List.map_cons, List.map_nil, List.any_cons, List.any_nil, List.getD_cons_zero, List.getD_cons_succ, true_or, or_true, true_and, and_true, Bool.and_true, Bool.true_and, Bool.or_false, Bool.false_or, Bool.not_false, Bool.not_true, Bool.or_true, Bool.true_or, decide_true, decide_false, wFor, wRng1, wRng2, wLc, wSeqI, items, wEnumX, wCallO, wNever, noOwn, List.all_cons, List.all_nil, wipeS, Bool.and_self, decide_eq_true_eq, atI0a, atI0b, atI0c, atI1b, atI1c, atI2c]
  exact h
end DL

set_option Elab.async false
set_option linter.all false
set_option maxRecDepth 100000
set_option maxHeartbeats 4000000
set_option exponentiation.threshold 3000
namespace DL
open PySem L2
theorem atI_last {α : Type} {xs : List α} {x : α} : atI (xs ++ [x]) (-1) = some x := by
  have e : ixN (xs ++ [x]).length (-1) = some xs.length := by
    unfold ixN
    rw [if_neg (by decide), List.length_append, List.length_cons, List.length_nil, if_pos (by omega)]
    congr 1
    omega
  unfold atI
  rw [e]
  show (xs ++ [x])[xs.length]? = some x
  simp
/-! ### weights -/
def wts : List Int → Int → List Int
  | [], p => [p]
  | b :: bs, p => p :: wts bs (p * b)
def wWeights : Ws := (wSeq (wSet 1 (wLst (wCons (wC (.int 1)) wNil)))
  (wSeq (wFor (wSeqI (wVar 0)) (wName 2) (wDrop (wAppend 1 (wCons (wBin (dI CMulX fun i j => .int (i * j)) (wBin dIx (wVar 1) (wUn dNeg (wC (.int 1)))) (wVar 2)) wNil))))
  (wRet (wVar 1))))
def FWeights : Fd := mkF (pin [0]) 3 (fun _ => wWeights)
def Bases (ns : List Int) : Prop := ∀ b ∈ ns, 2 ≤ b ∧ b ≤ 4
theorem wts_len : ∀ (ns : List Int) (p : Int), (wts ns p).length = ns.length + 1
  | [], _ => rfl
  | _ :: ns, p => by rw [wts, List.length_cons, wts_len ns, List.length_cons]
theorem pow4_le {a b : Nat} (h : a ≤ b) : (4 : Int) ^ a ≤ 4 ^ b := by
  induction h with
  | refl => exact Int.le_refl _
  | step _ ih =>
    rename_i m _
    rw [Int.pow_succ]
    have : (0 : Int) < 4 ^ m := Int.pow_pos (by decide)
    omega
theorem pow4 : (4 : Int) ^ 60 < 2 ^ 127 := by decide +kernel
theorem weights_loop {ns : List Int} : ∀ {acc : List Int} {p : Int} {B : PD} {s2 : SD} {O : On}, Bases ns → 0 < p → p * 4 ^ ns.length ≤ 4 ^ 60 → acc.length + ns.length ≤ 1000 →
    (∀ s, O.nx [.dat B, .own (.lst ((acc ++ wts ns p).map .int)), s]) →
    forL (wName 2) (wDrop (wAppend 1 (wCons (wBin (dI CMulX fun i j => .int (i * j)) (wBin dIx (wVar 1) (wUn dNeg (wC (.int 1)))) (wVar 2)) wNil))) (ns.map .int) O [.dat B, .own (.lst ((acc ++ [p]).map .int)), s2] := by
  induction ns with
  | nil => intro acc p B s2 O _ _ _ _ h; exact h s2
  | cons b bs ih =>
    intro acc p B s2 O hb hp hP hl h
    obtain ⟨b1, b2⟩ := hb b List.mem_cons_self
    rw [List.length_cons] at hP hl
    have q : (4 : Int) ^ (bs.length + 1) = 4 * 4 ^ bs.length := by rw [Int.pow_succ, Int.mul_comm]
    have pos : (0 : Int) < 4 ^ bs.length := Int.pow_pos (by decide)
    have hpb : p * b * 4 ^ bs.length ≤ 4 ^ 60 := by
      refine Int.le_trans ?_ hP
      rw [q, Int.mul_assoc]
      exact Int.mul_le_mul_of_nonneg_left (Int.mul_le_mul_of_nonneg_right b2 (by omega)) (by omega)
    have hps : p < 2 ^ 127 := by
      have : p ≤ p * 4 ^ (bs.length + 1) := by
        have : 1 ≤ (4 : Int) ^ (bs.length + 1) := Int.pow_pos (by decide)
        calc p = p * 1 := by omega
          _ ≤ p * 4 ^ (bs.length + 1) := Int.mul_le_mul_of_nonneg_left this (by omega)
      exact Int.lt_of_le_of_lt (Int.le_trans this hP) pow4
    show wName 2 (.int b) _ _
    have el : (List.map PD.int (acc ++ [p])) = acc.map PD.int ++ [.int p] := by rw [List.map_append]; rfl
    simp only [el, wSeq, wNext, wIfS, wSetF, wSet, into, wSetIx, wRet, wRetN, wDrop, wB, wBin, wUn, wCB, wCons, wNil, wVar, wC, wIf, wAnd, wOr, wNot, wAndV, wOrV, wNotV, wTup, wLst, wSl, wNoPart, wPart, wChain, wUnp, wgTup, wgCons, wgNil, wName, wIsi, wListRg, wRg1, wRg2, wTupRg, wPuts, puts, Rz.sd, wConsH, wAppend, wExtend, ownL, dI, dI0, dIx, dInt, dAbs, dLen, dMax2, dMin2, dSum, dAll, dAny, dList, dTuple, dAdd, dNeg, dIsN, dNotN, PD.isN, dSl, look, looks, ok, Rz.pd, SD.pd, OD.pd, Rz.cold, Rz.cool, warm, pdsOf, frz, frzAll, leave, argOf, onceB, newBor, isBor, ty_non, ty_bl, ty_int, ty_str, ty_lst, ty_scr, ty_tup, ty_dct, isa, String.reduceBEq, beq_self_eq_true, Bool.false_and, Bool.and_false, Bool.not_true, Bool.or_self, wYes, wCall, backS_0, backS_1, backS_2, backS_3, backS_4, backS_o0, backS_o1, backS_o2, backS_o3, dEq_int, dEq_str, dNeX_int, dNeX_str, List.length_cons, List.length_nil, List.cons_append, List.nil_append, List.replicate, Nat.reduceAdd, Nat.reduceSub, List.getElem?_cons_zero, List.getElem?_cons_succ, Option.bind_some, List.set_cons_zero, List.set_cons_succ, List.map_cons, List.map_nil, List.any_cons, List.any_nil, List.getD_cons_zero, List.getD_cons_succ, true_or, or_true, true_and, and_true, Bool.and_true, Bool.true_and, Bool.or_false, Bool.false_or, Bool.not_false, Bool.not_true, Bool.or_true, Bool.true_or, decide_true, decide_false, wFor, wRng1, wRng2, wLc, wSeqI, items, wEnumX, wCallO, wNever, noOwn, List.all_cons, List.all_nil, wipeS, Bool.and_self, decide_eq_true_eq, atI0a, atI0b, atI0c, atI1b, atI1c, atI2c]
    rw [atI_last]
    simp only [wSeq, wNext, wIfS, wSetF, wSet, into, wSetIx, wRet, wRetN, wDrop, wB, wBin, wUn, wCB, wCons, wNil, wVar, wC, wIf, wAnd, wOr, wNot, wAndV, wOrV, wNotV, wTup, wLst, wSl, wNoPart, wPart, wChain, wUnp, wgTup, wgCons, wgNil, wName, wIsi, wListRg, wRg1, wRg2, wTupRg, wPuts, puts, Rz.sd, wConsH, wAppend, wExtend, ownL, dI, dI0, dIx, dInt, dAbs, dLen, dMax2, dMin2, dSum, dAll, dAny, dList, dTuple, dAdd, dNeg, dIsN, dNotN, PD.isN, dSl, look, looks, ok, Rz.pd, SD.pd, OD.pd, Rz.cold, Rz.cool, warm, pdsOf, frz, frzAll, leave, argOf, onceB, newBor, isBor, ty_non, ty_bl, ty_int, ty_str, ty_lst, ty_scr, ty_tup, ty_dct, isa, String.reduceBEq, beq_self_eq_true, Bool.false_and, Bool.and_false, Bool.not_true, Bool.or_self, wYes, wCall, backS_0, backS_1, backS_2, backS_3, backS_4, backS_o0, backS_o1, backS_o2, backS_o3, dEq_int, dEq_str, dNeX_int, dNeX_str, List.length_cons, List.length_nil, List.cons_append, List.nil_append, List.replicate, Nat.reduceAdd, Nat.reduceSub, List.getElem?_cons_zero, List.getElem?_cons_succ, Option.bind_some, List.set_cons_zero, List.set_cons_succ, List.map_cons, List.map_nil, List.any_cons, List.any_nil, List.getD_cons_zero, List.getD_cons_succ, true_or, or_true, true_and, and_true, Bool.and_true, Bool.true_and, Bool.or_false, Bool.false_or, Bool.not_false, Bool.not_true, Bool.or_true, Bool.true_or, decide_true, decide_false, wFor, wRng1, wRng2, wLc, wSeqI, items, wEnumX, wCallO, wNever, noOwn, List.all_cons, List.all_nil, wipeS, Bool.and_self, decide_eq_true_eq, atI0a, atI0b, atI0c, atI1b, atI1c, atI2c]
    refine ⟨mulX (sm_big (by omega)) (sm_big (by omega)), by rw [List.length_append, List.length_map, List.length_cons, List.length_nil]; exact sz' (by omega), ?_⟩
    have e2 : acc.map PD.int ++ [.int p] ++ [.int (p * b)] = ((acc ++ [p]) ++ [p * b]).map PD.int := by simp
    rw [e2]
    refine ih (fun x hx => hb x (List.mem_cons_of_mem _ hx)) (Int.mul_pos hp (by omega)) hpb (by rw [List.length_append, List.length_cons, List.length_nil]; omega) fun s => ?_
    have := h s
    rw [wts] at this
    rw [List.append_assoc]
    exact this
theorem weights_ok {ns : List Int} {Q : Rz → Sl → Prop} {Ξ : Xp} (hb : Bases ns) (hl : ns.length ≤ 60) (h : Q (.own (.lst ((wts ns 1).map .int))) [.dat (.tup (ns.map .int))]) : FWeights [.dat (.tup (ns.map .int))] Q Ξ := by
  unfold FWeights mkF
  refine ⟨pinned1, ?_⟩
  simp only [wWeights, wSeq, wNext, wIfS, wSetF, wSet, into, wSetIx, wRet, wRetN, wDrop, wB, wBin, wUn, wCB, wCons, wNil, wVar, wC, wIf, wAnd, wOr, wNot, wAndV, wOrV, wNotV, wTup, wLst, wSl, wNoPart, wPart, wChain, wUnp, wgTup, wgCons, wgNil, wName, wIsi, wListRg, wRg1, wRg2, wTupRg, wPuts, puts, Rz.sd, wConsH, wAppend, wExtend, ownL, dI, dI0, dIx, dInt, dAbs, dLen, dMax2, dMin2, dSum, dAll, dAny, dList, dTuple, dAdd, dNeg, dIsN, dNotN, PD.isN, dSl, look, looks, ok, Rz.pd, SD.pd, OD.pd, Rz.cold, Rz.cool, warm, pdsOf, frz, frzAll, leave, argOf, onceB, newBor, isBor, ty_non, ty_bl, ty_int, ty_str, ty_lst, ty_scr, ty_tup, ty_dct, isa, String.reduceBEq, beq_self_eq_true, Bool.false_and, Bool.and_false, Bool.not_true, Bool.or_self, wYes, wCall, backS_0, backS_1, backS_2, backS_3, backS_4, backS_o0, backS_o1, backS_o2, backS_o3, dEq_int, dEq_str, dNeX_int, dNeX_str, List.length_cons, List.length_nil, List.cons_append, List.nil_append, List.replicate, Nat.reduceAdd, Nat.reduceSub, List.getElem?_cons_zero, List.getElem?_cons_succ, Option.bind_some, List.set_cons_zero, List.set_cons_succ, List.map_cons, List.map_nil, List.any_cons, List.any_nil, List.getD_cons_zero, List.getD_cons_succ, true_or, or_true, true_and, and_true, Bool.and_true, Bool.true_and, Bool.or_false, Bool.false_or, Bool.not_false, Bool.not_true, Bool.or_true, Bool.true_or, decide_true, decide_false, wFor, wRng1, wRng2, wLc, wSeqI, items, wEnumX, wCallO, wNever, noOwn, List.all_cons, List.all_nil, wipeS, Bool.and_self, decide_eq_true_eq, atI0a, atI0b, atI0c, atI1b, atI1c, atI2c]
  refine ⟨sz (by decide), ?_⟩
  refine weights_loop (acc := []) (p := 1) hb (by decide) ?_ (by rw [List.length_nil]; omega) fun s => ?_
  · rw [Int.one_mul]; exact pow4_le hl
  · simp only [List.nil_append, wSeq, wNext, wIfS, wSetF, wSet, into, wSetIx, wRet, wRetN, wDrop, wB, wBin, wUn, wCB, wCons, wNil, wVar, wC, wIf, wAnd, wOr, wNot, wAndV, wOrV, wNotV, wTup, wLst, wSl, wNoPart, wPart, wChain, wUnp, wgTup, wgCons, wgNil, wName, wIsi, wListRg, wRg1, wRg2, wTupRg, wPuts, puts, Rz.sd, wConsH, wAppend, wExtend, ownL, dI, dI0, dIx, dInt, dAbs, dLen, dMax2, dMin2, dSum, dAll, dAny, dList, dTuple, dAdd, dNeg, dIsN, dNotN, PD.isN, dSl, look, looks, ok, Rz.pd, SD.pd, OD.pd, Rz.cold, Rz.cool, warm, pdsOf, frz, frzAll, leave, argOf, onceB, newBor, isBor, ty_non, ty_bl, ty_int, ty_str, ty_lst, ty_scr, ty_tup, ty_dct, isa, String.reduceBEq, beq_self_eq_true, Bool.false_and, Bool.and_false, Bool.not_true, Bool.or_self, wYes, wCall, backS_0, backS_1, backS_2, backS_3, backS_4, backS_o0, backS_o1, backS_o2, backS_o3, dEq_int, dEq_str, dNeX_int, dNeX_str, List.length_cons, List.length_nil, List.cons_append, List.nil_append, List.replicate, Nat.reduceAdd, Nat.reduceSub, List.getElem?_cons_zero, List.getElem?_cons_succ, Option.bind_some, List.set_cons_zero, List.set_cons_succ, List.map_cons, List.map_nil, List.any_cons, List.any_nil, List.getD_cons_zero, List.getD_cons_succ, true_or, or_true, true_and, and_true, Bool.and_true, Bool.true_and, Bool.or_false, Bool.false_or, Bool.not_false, Bool.not_true, Bool.or_true, Bool.true_or, decide_true, decide_false, wFor, wRng1, wRng2, wLc, wSeqI, items, wEnumX, wCallO, wNever, noOwn, List.all_cons, List.all_nil, wipeS, Bool.and_self, decide_eq_true_eq, atI0a, atI0b, atI0c, atI1b, atI1c, atI2c]
    exact ⟨fun _ => rfl, h⟩
/-! ### which pairs can be -/
/-- the pair (x, y, d) in a service -/
def Poss (w : Str) (n x y d : Int) : Bool :=
  if w = "any" then decide (x ≠ d + y) && (decide (0 < d) || decide (1 < n))
  else if d + y ≤ x then false
  else if w = "order" then decide (0 < d) || decide (1 < n)
  else decide (y - x ≤ (d + 1) * (n - 1)) && (decide (1 < n) || decide (x = 0))
def wIsPossible : Ws := (wSeq (wUnp (wVar 0) (wgTup 2 (wgCons (wName 2) (wgCons (wName 3) wgNil))))
  (wSeq (wUnp (wVar 1) (wgTup 3 (wgCons (wName 4) (wgCons (wName 5) (wgCons (wName 6) wgNil)))))
  (wSeq (wIfS (wB (wBin dEq (wVar 2) (wC (.str "any")))) (wRet (wAndV (wBin dNeX (wVar 4) (wBin dAdd (wVar 6) (wVar 5))) (wOrV (wBin (dI0 fun i j => .bl (decide (j < i))) (wVar 6) (wC (.int 0))) (wBin (dI0 fun i j => .bl (decide (j < i))) (wVar 3) (wC (.int 1)))))) wNext)
  (wSeq (wIfS (wB (wBin (dI0 fun i j => .bl (decide (j ≤ i))) (wVar 4) (wBin dAdd (wVar 6) (wVar 5)))) (wRet (wC (.bl false))) wNext)
  (wSeq (wIfS (wB (wBin dEq (wVar 2) (wC (.str "order")))) (wRet (wOrV (wBin (dI0 fun i j => .bl (decide (j < i))) (wVar 6) (wC (.int 0))) (wBin (dI0 fun i j => .bl (decide (j < i))) (wVar 3) (wC (.int 1))))) wNext)
  (wRet (wAndV (wBin (dI0 fun i j => .bl (decide (i ≤ j))) (wBin (dI0 fun i j => .int (i - j)) (wVar 5) (wVar 4)) (wBin (dI CMulX fun i j => .int (i * j)) (wBin dAdd (wVar 6) (wC (.int 1))) (wBin (dI0 fun i j => .int (i - j)) (wVar 3) (wC (.int 1))))) (wOrV (wBin (dI0 fun i j => .bl (decide (j < i))) (wVar 3) (wC (.int 1))) (wBin dEq (wVar 4) (wC (.int 0)))))))))))
def FIsPossible : Fd := mkF (pin [0, 1]) 7 (fun _ => wIsPossible)
theorem isPossible_ok {w : Str} {n x y d : Int} {Q : Rz → Sl → Prop} {Ξ : Xp} (hs : Sv w n) (hd : Sm (d + 1)) (h : Q (.dat (.bl (Poss w n x y d))) [.dat (sv w n), .dat (.tup [.int x, .int y, .int d])]) : FIsPossible [.dat (sv w n), .dat (.tup [.int x, .int y, .int d])] Q Ξ := by
  obtain ⟨hw, h1, h2⟩ := hs
  unfold FIsPossible mkF
  refine ⟨pinnedD (xs := [sv w n, .tup [.int x, .int y, .int d]]), ?_⟩
  simp only [wIsPossible, sv, wSeq, wNext, wIfS, wSetF, wSet, into, wSetIx, wRet, wRetN, wDrop, wB, wBin, wUn, wCB, wCons, wNil, wVar, wC, wIf, wAnd, wOr, wNot, wAndV, wOrV, wNotV, wTup, wLst, wSl, wNoPart, wPart, wChain, wUnp, wgTup, wgCons, wgNil, wName, wIsi, wListRg, wRg1, wRg2, wTupRg, wPuts, puts, Rz.sd, wConsH, wAppend, wExtend, ownL, dI, dI0, dIx, dInt, dAbs, dLen, dMax2, dMin2, dSum, dAll, dAny, dList, dTuple, dAdd, dNeg, dIsN, dNotN, PD.isN, dSl, look, looks, ok, Rz.pd, SD.pd, OD.pd, Rz.cold, Rz.cool, warm, pdsOf, frz, frzAll, leave, argOf, onceB, newBor, isBor, ty_non, ty_bl, ty_int, ty_str, ty_lst, ty_scr, ty_tup, ty_dct, isa, String.reduceBEq, beq_self_eq_true, Bool.false_and, Bool.and_false, Bool.not_true, Bool.or_self, wYes, wCall, backS_0, backS_1, backS_2, backS_3, backS_4, backS_o0, backS_o1, backS_o2, backS_o3, dEq_int, dEq_str, dNeX_int, dNeX_str, List.length_cons, List.length_nil, List.cons_append, List.nil_append, List.replicate, Nat.reduceAdd, Nat.reduceSub, List.getElem?_cons_zero, List.getElem?_cons_succ, Option.bind_some, List.set_cons_zero, List.set_cons_succ, List.map_cons, List.map_nil, List.any_cons, List.any_nil, List.getD_cons_zero, List.getD_cons_succ, true_or, or_true, true_and, and_true, Bool.and_true, Bool.true_and, Bool.or_false, Bool.false_or, Bool.not_false, Bool.not_true, Bool.or_true, Bool.true_or, decide_true, decide_false, wFor, wRng1, wRng2, wLc, wSeqI, items, wEnumX, wCallO, wNever, noOwn, List.all_cons, List.all_nil, wipeS, Bool.and_self, decide_eq_true_eq, atI0a, atI0b, atI0c, atI1b, atI1c, atI2c]
  have z2 : (2 : Nat) ≤ sizeLine := sz (by decide)
  have z3 : (3 : Nat) ≤ sizeLine := sz (by decide)
  have e : Poss w n x y d = Poss w n x y d := rfl
  rcases hw with rfl | rfl | rfl
  · have ne1 : ("queue" : Str) ≠ "any" := by decide +kernel
    have ne2 : ("queue" : Str) ≠ "order" := by decide +kernel
    unfold Poss at h
    rw [if_neg ne1, if_neg ne2] at h
    simp only [dEq_str sok_queue sok_any, dEq_str sok_queue sok_order, qa, qo, z2, z3, wSeq, wNext, wIfS, wSetF, wSet, into, wSetIx, wRet, wRetN, wDrop, wB, wBin, wUn, wCB, wCons, wNil, wVar, wC, wIf, wAnd, wOr, wNot, wAndV, wOrV, wNotV, wTup, wLst, wSl, wNoPart, wPart, wChain, wUnp, wgTup, wgCons, wgNil, wName, wIsi, wListRg, wRg1, wRg2, wTupRg, wPuts, puts, Rz.sd, wConsH, wAppend, wExtend, ownL, dI, dI0, dIx, dInt, dAbs, dLen, dMax2, dMin2, dSum, dAll, dAny, dList, dTuple, dAdd, dNeg, dIsN, dNotN, PD.isN, dSl, look, looks, ok, Rz.pd, SD.pd, OD.pd, Rz.cold, Rz.cool, warm, pdsOf, frz, frzAll, leave, argOf, onceB, newBor, isBor, ty_non, ty_bl, ty_int, ty_str, ty_lst, ty_scr, ty_tup, ty_dct, isa, String.reduceBEq, beq_self_eq_true, Bool.false_and, Bool.and_false, Bool.not_true, Bool.or_self, wYes, wCall, backS_0, backS_1, backS_2, backS_3, backS_4, backS_o0, backS_o1, backS_o2, backS_o3, dEq_int, dEq_str, dNeX_int, dNeX_str, List.length_cons, List.length_nil, List.cons_append, List.nil_append, List.replicate, Nat.reduceAdd, Nat.reduceSub, List.getElem?_cons_zero, List.getElem?_cons_succ, Option.bind_some, List.set_cons_zero, List.set_cons_succ, List.map_cons, List.map_nil, List.any_cons, List.any_nil, List.getD_cons_zero, List.getD_cons_succ, true_or, or_true, true_and, and_true, Bool.and_true, Bool.true_and, Bool.or_false, Bool.false_or, Bool.not_false, Bool.not_true, Bool.or_true, Bool.true_or, decide_true, decide_false, wFor, wRng1, wRng2, wLc, wSeqI, items, wEnumX, wCallO, wNever, noOwn, List.all_cons, List.all_nil, wipeS, Bool.and_self, decide_eq_true_eq, atI0a, atI0b, atI0c, atI1b, atI1c, atI2c]
    by_cases c1 : d + y ≤ x
    · rw [if_pos c1] at h
      simp only [decide_eq_true c1, wSeq, wNext, wIfS, wSetF, wSet, into, wSetIx, wRet, wRetN, wDrop, wB, wBin, wUn, wCB, wCons, wNil, wVar, wC, wIf, wAnd, wOr, wNot, wAndV, wOrV, wNotV, wTup, wLst, wSl, wNoPart, wPart, wChain, wUnp, wgTup, wgCons, wgNil, wName, wIsi, wListRg, wRg1, wRg2, wTupRg, wPuts, puts, Rz.sd, wConsH, wAppend, wExtend, ownL, dI, dI0, dIx, dInt, dAbs, dLen, dMax2, dMin2, dSum, dAll, dAny, dList, dTuple, dAdd, dNeg, dIsN, dNotN, PD.isN, dSl, look, looks, ok, Rz.pd, SD.pd, OD.pd, Rz.cold, Rz.cool, warm, pdsOf, frz, frzAll, leave, argOf, onceB, newBor, isBor, ty_non, ty_bl, ty_int, ty_str, ty_lst, ty_scr, ty_tup, ty_dct, isa, String.reduceBEq, beq_self_eq_true, Bool.false_and, Bool.and_false, Bool.not_true, Bool.or_self, wYes, wCall, backS_0, backS_1, backS_2, backS_3, backS_4, backS_o0, backS_o1, backS_o2, backS_o3, dEq_int, dEq_str, dNeX_int, dNeX_str, List.length_cons, List.length_nil, List.cons_append, List.nil_append, List.replicate, Nat.reduceAdd, Nat.reduceSub, List.getElem?_cons_zero, List.getElem?_cons_succ, Option.bind_some, List.set_cons_zero, List.set_cons_succ, List.map_cons, List.map_nil, List.any_cons, List.any_nil, List.getD_cons_zero, List.getD_cons_succ, true_or, or_true, true_and, and_true, Bool.and_true, Bool.true_and, Bool.or_false, Bool.false_or, Bool.not_false, Bool.not_true, Bool.or_true, Bool.true_or, decide_true, decide_false, wFor, wRng1, wRng2, wLc, wSeqI, items, wEnumX, wCallO, wNever, noOwn, List.all_cons, List.all_nil, wipeS, Bool.and_self, decide_eq_true_eq, atI0a, atI0b, atI0c, atI1b, atI1c, atI2c]
      exact h
    · rw [if_neg c1] at h
      simp only [decide_eq_false c1, wSeq, wNext, wIfS, wSetF, wSet, into, wSetIx, wRet, wRetN, wDrop, wB, wBin, wUn, wCB, wCons, wNil, wVar, wC, wIf, wAnd, wOr, wNot, wAndV, wOrV, wNotV, wTup, wLst, wSl, wNoPart, wPart, wChain, wUnp, wgTup, wgCons, wgNil, wName, wIsi, wListRg, wRg1, wRg2, wTupRg, wPuts, puts, Rz.sd, wConsH, wAppend, wExtend, ownL, dI, dI0, dIx, dInt, dAbs, dLen, dMax2, dMin2, dSum, dAll, dAny, dList, dTuple, dAdd, dNeg, dIsN, dNotN, PD.isN, dSl, look, looks, ok, Rz.pd, SD.pd, OD.pd, Rz.cold, Rz.cool, warm, pdsOf, frz, frzAll, leave, argOf, onceB, newBor, isBor, ty_non, ty_bl, ty_int, ty_str, ty_lst, ty_scr, ty_tup, ty_dct, isa, String.reduceBEq, beq_self_eq_true, Bool.false_and, Bool.and_false, Bool.not_true, Bool.or_self, wYes, wCall, backS_0, backS_1, backS_2, backS_3, backS_4, backS_o0, backS_o1, backS_o2, backS_o3, dEq_int, dEq_str, dNeX_int, dNeX_str, List.length_cons, List.length_nil, List.cons_append, List.nil_append, List.replicate, Nat.reduceAdd, Nat.reduceSub, List.getElem?_cons_zero, List.getElem?_cons_succ, Option.bind_some, List.set_cons_zero, List.set_cons_succ, List.map_cons, List.map_nil, List.any_cons, List.any_nil, List.getD_cons_zero, List.getD_cons_succ, true_or, or_true, true_and, and_true, Bool.and_true, Bool.true_and, Bool.or_false, Bool.false_or, Bool.not_false, Bool.not_true, Bool.or_true, Bool.true_or, decide_true, decide_false, wFor, wRng1, wRng2, wLc, wSeqI, items, wEnumX, wCallO, wNever, noOwn, List.all_cons, List.all_nil, wipeS, Bool.and_self, decide_eq_true_eq, atI0a, atI0b, atI0c, atI1b, atI1c, atI2c]
      refine ⟨mulX hd (sm_big (by omega)), ?_⟩
      by_cases c2 : y - x ≤ (d + 1) * (n - 1)
      · rw [decide_eq_true c2, Bool.true_and] at h
        simp only [decide_eq_true c2, wSeq, wNext, wIfS, wSetF, wSet, into, wSetIx, wRet, wRetN, wDrop, wB, wBin, wUn, wCB, wCons, wNil, wVar, wC, wIf, wAnd, wOr, wNot, wAndV, wOrV, wNotV, wTup, wLst, wSl, wNoPart, wPart, wChain, wUnp, wgTup, wgCons, wgNil, wName, wIsi, wListRg, wRg1, wRg2, wTupRg, wPuts, puts, Rz.sd, wConsH, wAppend, wExtend, ownL, dI, dI0, dIx, dInt, dAbs, dLen, dMax2, dMin2, dSum, dAll, dAny, dList, dTuple, dAdd, dNeg, dIsN, dNotN, PD.isN, dSl, look, looks, ok, Rz.pd, SD.pd, OD.pd, Rz.cold, Rz.cool, warm, pdsOf, frz, frzAll, leave, argOf, onceB, newBor, isBor, ty_non, ty_bl, ty_int, ty_str, ty_lst, ty_scr, ty_tup, ty_dct, isa, String.reduceBEq, beq_self_eq_true, Bool.false_and, Bool.and_false, Bool.not_true, Bool.or_self, wYes, wCall, backS_0, backS_1, backS_2, backS_3, backS_4, backS_o0, backS_o1, backS_o2, backS_o3, dEq_int, dEq_str, dNeX_int, dNeX_str, List.length_cons, List.length_nil, List.cons_append, List.nil_append, List.replicate, Nat.reduceAdd, Nat.reduceSub, List.getElem?_cons_zero, List.getElem?_cons_succ, Option.bind_some, List.set_cons_zero, List.set_cons_succ, List.map_cons, List.map_nil, List.any_cons, List.any_nil, List.getD_cons_zero, List.getD_cons_succ, true_or, or_true, true_and, and_true, Bool.and_true, Bool.true_and, Bool.or_false, Bool.false_or, Bool.not_false, Bool.not_true, Bool.or_true, Bool.true_or, decide_true, decide_false, wFor, wRng1, wRng2, wLc, wSeqI, items, wEnumX, wCallO, wNever, noOwn, List.all_cons, List.all_nil, wipeS, Bool.and_self, decide_eq_true_eq, atI0a, atI0b, atI0c, atI1b, atI1c, atI2c]
        by_cases c3 : 1 < n
        · rw [decide_eq_true c3, Bool.true_or] at h
          simp only [decide_eq_true c3, wSeq, wNext, wIfS, wSetF, wSet, into, wSetIx, wRet, wRetN, wDrop, wB, wBin, wUn, wCB, wCons, wNil, wVar, wC, wIf, wAnd, wOr, wNot, wAndV, wOrV, wNotV, wTup, wLst, wSl, wNoPart, wPart, wChain, wUnp, wgTup, wgCons, wgNil, wName, wIsi, wListRg, wRg1, wRg2, wTupRg, wPuts, puts, Rz.sd, wConsH, wAppend, wExtend, ownL, dI, dI0, dIx, dInt, dAbs, dLen, dMax2, dMin2, dSum, dAll, dAny, dList, dTuple, dAdd, dNeg, dIsN, dNotN, PD.isN, dSl, look, looks, ok, Rz.pd, SD.pd, OD.pd, Rz.cold, Rz.cool, warm, pdsOf, frz, frzAll, leave, argOf, onceB, newBor, isBor, ty_non, ty_bl, ty_int, ty_str, ty_lst, ty_scr, ty_tup, ty_dct, isa, String.reduceBEq, beq_self_eq_true, Bool.false_and, Bool.and_false, Bool.not_true, Bool.or_self, wYes, wCall, backS_0, backS_1, backS_2, backS_3, backS_4, backS_o0, backS_o1, backS_o2, backS_o3, dEq_int, dEq_str, dNeX_int, dNeX_str, List.length_cons, List.length_nil, List.cons_append, List.nil_append, List.replicate, Nat.reduceAdd, Nat.reduceSub, List.getElem?_cons_zero, List.getElem?_cons_succ, Option.bind_some, List.set_cons_zero, List.set_cons_succ, List.map_cons, List.map_nil, List.any_cons, List.any_nil, List.getD_cons_zero, List.getD_cons_succ, true_or, or_true, true_and, and_true, Bool.and_true, Bool.true_and, Bool.or_false, Bool.false_or, Bool.not_false, Bool.not_true, Bool.or_true, Bool.true_or, decide_true, decide_false, wFor, wRng1, wRng2, wLc, wSeqI, items, wEnumX, wCallO, wNever, noOwn, List.all_cons, List.all_nil, wipeS, Bool.and_self, decide_eq_true_eq, atI0a, atI0b, atI0c, atI1b, atI1c, atI2c]; exact h
        · rw [decide_eq_false c3, Bool.false_or] at h
          simp only [decide_eq_false c3, wSeq, wNext, wIfS, wSetF, wSet, into, wSetIx, wRet, wRetN, wDrop, wB, wBin, wUn, wCB, wCons, wNil, wVar, wC, wIf, wAnd, wOr, wNot, wAndV, wOrV, wNotV, wTup, wLst, wSl, wNoPart, wPart, wChain, wUnp, wgTup, wgCons, wgNil, wName, wIsi, wListRg, wRg1, wRg2, wTupRg, wPuts, puts, Rz.sd, wConsH, wAppend, wExtend, ownL, dI, dI0, dIx, dInt, dAbs, dLen, dMax2, dMin2, dSum, dAll, dAny, dList, dTuple, dAdd, dNeg, dIsN, dNotN, PD.isN, dSl, look, looks, ok, Rz.pd, SD.pd, OD.pd, Rz.cold, Rz.cool, warm, pdsOf, frz, frzAll, leave, argOf, onceB, newBor, isBor, ty_non, ty_bl, ty_int, ty_str, ty_lst, ty_scr, ty_tup, ty_dct, isa, String.reduceBEq, beq_self_eq_true, Bool.false_and, Bool.and_false, Bool.not_true, Bool.or_self, wYes, wCall, backS_0, backS_1, backS_2, backS_3, backS_4, backS_o0, backS_o1, backS_o2, backS_o3, dEq_int, dEq_str, dNeX_int, dNeX_str, List.length_cons, List.length_nil, List.cons_append, List.nil_append, List.replicate, Nat.reduceAdd, Nat.reduceSub, List.getElem?_cons_zero, List.getElem?_cons_succ, Option.bind_some, List.set_cons_zero, List.set_cons_succ, List.map_cons, List.map_nil, List.any_cons, List.any_nil, List.getD_cons_zero, List.getD_cons_succ, true_or, or_true, true_and, and_true, Bool.and_true, Bool.true_and, Bool.or_false, Bool.false_or, Bool.not_false, Bool.not_true, Bool.or_true, Bool.true_or, decide_true, decide_false, wFor, wRng1, wRng2, wLc, wSeqI, items, wEnumX, wCallO, wNever, noOwn, List.all_cons, List.all_nil, wipeS, Bool.and_self, decide_eq_true_eq, atI0a, atI0b, atI0c, atI1b, atI1c, atI2c]; exact h
      · rw [decide_eq_false c2, Bool.false_and] at h
        simp only [decide_eq_false c2, wSeq, wNext, wIfS, wSetF, wSet, into, wSetIx, wRet, wRetN, wDrop, wB, wBin, wUn, wCB, wCons, wNil, wVar, wC, wIf, wAnd, wOr, wNot, wAndV, wOrV, wNotV, wTup, wLst, wSl, wNoPart, wPart, wChain, wUnp, wgTup, wgCons, wgNil, wName, wIsi, wListRg, wRg1, wRg2, wTupRg, wPuts, puts, Rz.sd, wConsH, wAppend, wExtend, ownL, dI, dI0, dIx, dInt, dAbs, dLen, dMax2, dMin2, dSum, dAll, dAny, dList, dTuple, dAdd, dNeg, dIsN, dNotN, PD.isN, dSl, look, looks, ok, Rz.pd, SD.pd, OD.pd, Rz.cold, Rz.cool, warm, pdsOf, frz, frzAll, leave, argOf, onceB, newBor, isBor, ty_non, ty_bl, ty_int, ty_str, ty_lst, ty_scr, ty_tup, ty_dct, isa, String.reduceBEq, beq_self_eq_true, Bool.false_and, Bool.and_false, Bool.not_true, Bool.or_self, wYes, wCall, backS_0, backS_1, backS_2, backS_3, backS_4, backS_o0, backS_o1, backS_o2, backS_o3, dEq_int, dEq_str, dNeX_int, dNeX_str, List.length_cons, List.length_nil, List.cons_append, List.nil_append, List.replicate, Nat.reduceAdd, Nat.reduceSub, List.getElem?_cons_zero, List.getElem?_cons_succ, Option.bind_some, List.set_cons_zero, List.set_cons_succ, List.map_cons, List.map_nil, List.any_cons, List.any_nil, List.getD_cons_zero, List.getD_cons_succ, true_or, or_true, true_and, and_true, Bool.and_true, Bool.true_and, Bool.or_false, Bool.false_or, Bool.not_false, Bool.not_true, Bool.or_true, Bool.true_or, decide_true, decide_false, wFor, wRng1, wRng2, wLc, wSeqI, items, wEnumX, wCallO, wNever, noOwn, List.all_cons, List.all_nil, wipeS, Bool.and_self, decide_eq_true_eq, atI0a, atI0b, atI0c, atI1b, atI1c, atI2c]; exact h
  · have ne1 : ("order" : Str) ≠ "any" := by decide +kernel
    unfold Poss at h
    rw [if_neg ne1, if_pos rfl] at h
    simp only [dEq_str sok_order sok_any, dEq_str sok_order sok_order, oa, oo, z2, z3, wSeq, wNext, wIfS, wSetF, wSet, into, wSetIx, wRet, wRetN, wDrop, wB, wBin, wUn, wCB, wCons, wNil, wVar, wC, wIf, wAnd, wOr, wNot, wAndV, wOrV, wNotV, wTup, wLst, wSl, wNoPart, wPart, wChain, wUnp, wgTup, wgCons, wgNil, wName, wIsi, wListRg, wRg1, wRg2, wTupRg, wPuts, puts, Rz.sd, wConsH, wAppend, wExtend, ownL, dI, dI0, dIx, dInt, dAbs, dLen, dMax2, dMin2, dSum, dAll, dAny, dList, dTuple, dAdd, dNeg, dIsN, dNotN, PD.isN, dSl, look, looks, ok, Rz.pd, SD.pd, OD.pd, Rz.cold, Rz.cool, warm, pdsOf, frz, frzAll, leave, argOf, onceB, newBor, isBor, ty_non, ty_bl, ty_int, ty_str, ty_lst, ty_scr, ty_tup, ty_dct, isa, String.reduceBEq, beq_self_eq_true, Bool.false_and, Bool.and_false, Bool.not_true, Bool.or_self, wYes, wCall, backS_0, backS_1, backS_2, backS_3, backS_4, backS_o0, backS_o1, backS_o2, backS_o3, dEq_int, dEq_str, dNeX_int, dNeX_str, List.length_cons, List.length_nil, List.cons_append, List.nil_append, List.replicate, Nat.reduceAdd, Nat.reduceSub, List.getElem?_cons_zero, List.getElem?_cons_succ, Option.bind_some, List.set_cons_zero, List.set_cons_succ, List.map_cons, List.map_nil, List.any_cons, List.any_nil, List.getD_cons_zero, List.getD_cons_succ, true_or, or_true, true_and, and_true, Bool.and_true, Bool.true_and, Bool.or_false, Bool.false_or, Bool.not_false, Bool.not_true, Bool.or_true, Bool.true_or, decide_true, decide_false, wFor, wRng1, wRng2, wLc, wSeqI, items, wEnumX, wCallO, wNever, noOwn, List.all_cons, List.all_nil, wipeS, Bool.and_self, decide_eq_true_eq, atI0a, atI0b, atI0c, atI1b, atI1c, atI2c]
    by_cases c1 : d + y ≤ x
    · rw [if_pos c1] at h
      simp only [decide_eq_true c1, wSeq, wNext, wIfS, wSetF, wSet, into, wSetIx, wRet, wRetN, wDrop, wB, wBin, wUn, wCB, wCons, wNil, wVar, wC, wIf, wAnd, wOr, wNot, wAndV, wOrV, wNotV, wTup, wLst, wSl, wNoPart, wPart, wChain, wUnp, wgTup, wgCons, wgNil, wName, wIsi, wListRg, wRg1, wRg2, wTupRg, wPuts, puts, Rz.sd, wConsH, wAppend, wExtend, ownL, dI, dI0, dIx, dInt, dAbs, dLen, dMax2, dMin2, dSum, dAll, dAny, dList, dTuple, dAdd, dNeg, dIsN, dNotN, PD.isN, dSl, look, looks, ok, Rz.pd, SD.pd, OD.pd, Rz.cold, Rz.cool, warm, pdsOf, frz, frzAll, leave, argOf, onceB, newBor, isBor, ty_non, ty_bl, ty_int, ty_str, ty_lst, ty_scr, ty_tup, ty_dct, isa, String.reduceBEq, beq_self_eq_true, Bool.false_and, Bool.and_false, Bool.not_true, Bool.or_self, wYes, wCall, backS_0, backS_1, backS_2, backS_3, backS_4, backS_o0, backS_o1, backS_o2, backS_o3, dEq_int, dEq_str, dNeX_int, dNeX_str, List.length_cons, List.length_nil, List.cons_append, List.nil_append, List.replicate, Nat.reduceAdd, Nat.reduceSub, List.getElem?_cons_zero, List.getElem?_cons_succ, Option.bind_some, List.set_cons_zero, List.set_cons_succ, List.map_cons, List.map_nil, List.any_cons, List.any_nil, List.getD_cons_zero, List.getD_cons_succ, true_or, or_true, true_and, and_true, Bool.and_true, Bool.true_and, Bool.or_false, Bool.false_or, Bool.not_false, Bool.not_true, Bool.or_true, Bool.true_or, decide_true, decide_false, wFor, wRng1, wRng2, wLc, wSeqI, items, wEnumX, wCallO, wNever, noOwn, List.all_cons, List.all_nil, wipeS, Bool.and_self, decide_eq_true_eq, atI0a, atI0b, atI0c, atI1b, atI1c, atI2c]
      exact h
    · rw [if_neg c1] at h
      simp only [decide_eq_false c1, wSeq, wNext, wIfS, wSetF, wSet, into, wSetIx, wRet, wRetN, wDrop, wB, wBin, wUn, wCB, wCons, wNil, wVar, wC, wIf, wAnd, wOr, wNot, wAndV, wOrV, wNotV, wTup, wLst, wSl, wNoPart, wPart, wChain, wUnp, wgTup, wgCons, wgNil, wName, wIsi, wListRg, wRg1, wRg2, wTupRg, wPuts, puts, Rz.sd, wConsH, wAppend, wExtend, ownL, dI, dI0, dIx, dInt, dAbs, dLen, dMax2, dMin2, dSum, dAll, dAny, dList, dTuple, dAdd, dNeg, dIsN, dNotN, PD.isN, dSl, look, looks, ok, Rz.pd, SD.pd, OD.pd, Rz.cold, Rz.cool, warm, pdsOf, frz, frzAll, leave, argOf, onceB, newBor, isBor, ty_non, ty_bl, ty_int, ty_str, ty_lst, ty_scr, ty_tup, ty_dct, isa, String.reduceBEq, beq_self_eq_true, Bool.false_and, Bool.and_false, Bool.not_true, Bool.or_self, wYes, wCall, backS_0, backS_1, backS_2, backS_3, backS_4, backS_o0, backS_o1, backS_o2, backS_o3, dEq_int, dEq_str, dNeX_int, dNeX_str, List.length_cons, List.length_nil, List.cons_append, List.nil_append, List.replicate, Nat.reduceAdd, Nat.reduceSub, List.getElem?_cons_zero, List.getElem?_cons_succ, Option.bind_some, List.set_cons_zero, List.set_cons_succ, List.map_cons, List.map_nil, List.any_cons, List.any_nil, List.getD_cons_zero, List.getD_cons_succ, true_or, or_true, true_and, and_true, Bool.and_true, Bool.true_and, Bool.or_false, Bool.false_or, Bool.not_false, Bool.not_true, Bool.or_true, Bool.true_or, decide_true, decide_false, wFor, wRng1, wRng2, wLc, wSeqI, items, wEnumX, wCallO, wNever, noOwn, List.all_cons, List.all_nil, wipeS, Bool.and_self, decide_eq_true_eq, atI0a, atI0b, atI0c, atI1b, atI1c, atI2c]
      by_cases c3 : 0 < d
      · rw [decide_eq_true c3, Bool.true_or] at h
        simp only [decide_eq_true c3, wSeq, wNext, wIfS, wSetF, wSet, into, wSetIx, wRet, wRetN, wDrop, wB, wBin, wUn, wCB, wCons, wNil, wVar, wC, wIf, wAnd, wOr, wNot, wAndV, wOrV, wNotV, wTup, wLst, wSl, wNoPart, wPart, wChain, wUnp, wgTup, wgCons, wgNil, wName, wIsi, wListRg, wRg1, wRg2, wTupRg, wPuts, puts, Rz.sd, wConsH, wAppend, wExtend, ownL, dI, dI0, dIx, dInt, dAbs, dLen, dMax2, dMin2, dSum, dAll, dAny, dList, dTuple, dAdd, dNeg, dIsN, dNotN, PD.isN, dSl, look, looks, ok, Rz.pd, SD.pd, OD.pd, Rz.cold, Rz.cool, warm, pdsOf, frz, frzAll, leave, argOf, onceB, newBor, isBor, ty_non, ty_bl, ty_int, ty_str, ty_lst, ty_scr, ty_tup, ty_dct, isa, String.reduceBEq, beq_self_eq_true, Bool.false_and, Bool.and_false, Bool.not_true, Bool.or_self, wYes, wCall, backS_0, backS_1, backS_2, backS_3, backS_4, backS_o0, backS_o1, backS_o2, backS_o3, dEq_int, dEq_str, dNeX_int, dNeX_str, List.length_cons, List.length_nil, List.cons_append, List.nil_append, List.replicate, Nat.reduceAdd, Nat.reduceSub, List.getElem?_cons_zero, List.getElem?_cons_succ, Option.bind_some, List.set_cons_zero, List.set_cons_succ, List.map_cons, List.map_nil, List.any_cons, List.any_nil, List.getD_cons_zero, List.getD_cons_succ, true_or, or_true, true_and, and_true, Bool.and_true, Bool.true_and, Bool.or_false, Bool.false_or, Bool.not_false, Bool.not_true, Bool.or_true, Bool.true_or, decide_true, decide_false, wFor, wRng1, wRng2, wLc, wSeqI, items, wEnumX, wCallO, wNever, noOwn, List.all_cons, List.all_nil, wipeS, Bool.and_self, decide_eq_true_eq, atI0a, atI0b, atI0c, atI1b, atI1c, atI2c]; exact h
      · rw [decide_eq_false c3, Bool.false_or] at h
        simp only [decide_eq_false c3, wSeq, wNext, wIfS, wSetF, wSet, into, wSetIx, wRet, wRetN, wDrop, wB, wBin, wUn, wCB, wCons, wNil, wVar, wC, wIf, wAnd, wOr, wNot, wAndV, wOrV, wNotV, wTup, wLst, wSl, wNoPart, wPart, wChain, wUnp, wgTup, wgCons, wgNil, wName, wIsi, wListRg, wRg1, wRg2, wTupRg, wPuts, puts, Rz.sd, wConsH, wAppend, wExtend, ownL, dI, dI0, dIx, dInt, dAbs, dLen, dMax2, dMin2, dSum, dAll, dAny, dList, dTuple, dAdd, dNeg, dIsN, dNotN, PD.isN, dSl, look, looks, ok, Rz.pd, SD.pd, OD.pd, Rz.cold, Rz.cool, warm, pdsOf, frz, frzAll, leave, argOf, onceB, newBor, isBor, ty_non, ty_bl, ty_int, ty_str, ty_lst, ty_scr, ty_tup, ty_dct, isa, String.reduceBEq, beq_self_eq_true, Bool.false_and, Bool.and_false, Bool.not_true, Bool.or_self, wYes, wCall, backS_0, backS_1, backS_2, backS_3, backS_4, backS_o0, backS_o1, backS_o2, backS_o3, dEq_int, dEq_str, dNeX_int, dNeX_str, List.length_cons, List.length_nil, List.cons_append, List.nil_append, List.replicate, Nat.reduceAdd, Nat.reduceSub, List.getElem?_cons_zero, List.getElem?_cons_succ, Option.bind_some, List.set_cons_zero, List.set_cons_succ, List.map_cons, List.map_nil, List.any_cons, List.any_nil, List.getD_cons_zero, List.getD_cons_succ, true_or, or_true, true_and, and_true, Bool.and_true, Bool.true_and, Bool.or_false, Bool.false_or, Bool.not_false, Bool.not_true, Bool.or_true, Bool.true_or, decide_true, decide_false, wFor, wRng1, wRng2, wLc, wSeqI, items, wEnumX, wCallO, wNever, noOwn, List.all_cons, List.all_nil, wipeS, Bool.and_self, decide_eq_true_eq, atI0a, atI0b, atI0c, atI1b, atI1c, atI2c]; exact h
  · unfold Poss at h
    rw [if_pos rfl] at h
    simp only [dEq_str sok_any sok_any, aa, z2, z3, wSeq, wNext, wIfS, wSetF, wSet, into, wSetIx, wRet, wRetN, wDrop, wB, wBin, wUn, wCB, wCons, wNil, wVar, wC, wIf, wAnd, wOr, wNot, wAndV, wOrV, wNotV, wTup, wLst, wSl, wNoPart, wPart, wChain, wUnp, wgTup, wgCons, wgNil, wName, wIsi, wListRg, wRg1, wRg2, wTupRg, wPuts, puts, Rz.sd, wConsH, wAppend, wExtend, ownL, dI, dI0, dIx, dInt, dAbs, dLen, dMax2, dMin2, dSum, dAll, dAny, dList, dTuple, dAdd, dNeg, dIsN, dNotN, PD.isN, dSl, look, looks, ok, Rz.pd, SD.pd, OD.pd, Rz.cold, Rz.cool, warm, pdsOf, frz, frzAll, leave, argOf, onceB, newBor, isBor, ty_non, ty_bl, ty_int, ty_str, ty_lst, ty_scr, ty_tup, ty_dct, isa, String.reduceBEq, beq_self_eq_true, Bool.false_and, Bool.and_false, Bool.not_true, Bool.or_self, wYes, wCall, backS_0, backS_1, backS_2, backS_3, backS_4, backS_o0, backS_o1, backS_o2, backS_o3, dEq_int, dEq_str, dNeX_int, dNeX_str, List.length_cons, List.length_nil, List.cons_append, List.nil_append, List.replicate, Nat.reduceAdd, Nat.reduceSub, List.getElem?_cons_zero, List.getElem?_cons_succ, Option.bind_some, List.set_cons_zero, List.set_cons_succ, List.map_cons, List.map_nil, List.any_cons, List.any_nil, List.getD_cons_zero, List.getD_cons_succ, true_or, or_true, true_and, and_true, Bool.and_true, Bool.true_and, Bool.or_false, Bool.false_or, Bool.not_false, Bool.not_true, Bool.or_true, Bool.true_or, decide_true, decide_false, wFor, wRng1, wRng2, wLc, wSeqI, items, wEnumX, wCallO, wNever, noOwn, List.all_cons, List.all_nil, wipeS, Bool.and_self, decide_eq_true_eq, atI0a, atI0b, atI0c, atI1b, atI1c, atI2c]
    by_cases c1 : x ≠ d + y
    · rw [decide_eq_true c1, Bool.true_and] at h
      simp only [decide_eq_true c1, wSeq, wNext, wIfS, wSetF, wSet, into, wSetIx, wRet, wRetN, wDrop, wB, wBin, wUn, wCB, wCons, wNil, wVar, wC, wIf, wAnd, wOr, wNot, wAndV, wOrV, wNotV, wTup, wLst, wSl, wNoPart, wPart, wChain, wUnp, wgTup, wgCons, wgNil, wName, wIsi, wListRg, wRg1, wRg2, wTupRg, wPuts, puts, Rz.sd, wConsH, wAppend, wExtend, ownL, dI, dI0, dIx, dInt, dAbs, dLen, dMax2, dMin2, dSum, dAll, dAny, dList, dTuple, dAdd, dNeg, dIsN, dNotN, PD.isN, dSl, look, looks, ok, Rz.pd, SD.pd, OD.pd, Rz.cold, Rz.cool, warm, pdsOf, frz, frzAll, leave, argOf, onceB, newBor, isBor, ty_non, ty_bl, ty_int, ty_str, ty_lst, ty_scr, ty_tup, ty_dct, isa, String.reduceBEq, beq_self_eq_true, Bool.false_and, Bool.and_false, Bool.not_true, Bool.or_self, wYes, wCall, backS_0, backS_1, backS_2, backS_3, backS_4, backS_o0, backS_o1, backS_o2, backS_o3, dEq_int, dEq_str, dNeX_int, dNeX_str, List.length_cons, List.length_nil, List.cons_append, List.nil_append, List.replicate, Nat.reduceAdd, Nat.reduceSub, List.getElem?_cons_zero, List.getElem?_cons_succ, Option.bind_some, List.set_cons_zero, List.set_cons_succ, List.map_cons, List.map_nil, List.any_cons, List.any_nil, List.getD_cons_zero, List.getD_cons_succ, true_or, or_true, true_and, and_true, Bool.and_true, Bool.true_and, Bool.or_false, Bool.false_or, Bool.not_false, Bool.not_true, Bool.or_true, Bool.true_or, decide_true, decide_false, wFor, wRng1, wRng2, wLc, wSeqI, items, wEnumX, wCallO, wNever, noOwn, List.all_cons, List.all_nil, wipeS, Bool.and_self, decide_eq_true_eq, atI0a, atI0b, atI0c, atI1b, atI1c, atI2c]
      by_cases c3 : 0 < d
      · rw [decide_eq_true c3, Bool.true_or] at h
        simp only [decide_eq_true c3, wSeq, wNext, wIfS, wSetF, wSet, into, wSetIx, wRet, wRetN, wDrop, wB, wBin, wUn, wCB, wCons, wNil, wVar, wC, wIf, wAnd, wOr, wNot, wAndV, wOrV, wNotV, wTup, wLst, wSl, wNoPart, wPart, wChain, wUnp, wgTup, wgCons, wgNil, wName, wIsi, wListRg, wRg1, wRg2, wTupRg, wPuts, puts, Rz.sd, wConsH, wAppend, wExtend, ownL, dI, dI0, dIx, dInt, dAbs, dLen, dMax2, dMin2, dSum, dAll, dAny, dList, dTuple, dAdd, dNeg, dIsN, dNotN, PD.isN, dSl, look, looks, ok, Rz.pd, SD.pd, OD.pd, Rz.cold, Rz.cool, warm, pdsOf, frz, frzAll, leave, argOf, onceB, newBor, isBor, ty_non, ty_bl, ty_int, ty_str, ty_lst, ty_scr, ty_tup, ty_dct, isa, String.reduceBEq, beq_self_eq_true, Bool.false_and, Bool.and_false, Bool.not_true, Bool.or_self, wYes, wCall, backS_0, backS_1, backS_2, backS_3, backS_4, backS_o0, backS_o1, backS_o2, backS_o3, dEq_int, dEq_str, dNeX_int, dNeX_str, List.length_cons, List.length_nil, List.cons_append, List.nil_append, List.replicate, Nat.reduceAdd, Nat.reduceSub, List.getElem?_cons_zero, List.getElem?_cons_succ, Option.bind_some, List.set_cons_zero, List.set_cons_succ, List.map_cons, List.map_nil, List.any_cons, List.any_nil, List.getD_cons_zero, List.getD_cons_succ, true_or, or_true, true_and, and_true, Bool.and_true, Bool.true_and, Bool.or_false, Bool.false_or, Bool.not_false, Bool.not_true, Bool.or_true, Bool.true_or, decide_true, decide_false, wFor, wRng1, wRng2, wLc, wSeqI, items, wEnumX, wCallO, wNever, noOwn, List.all_cons, List.all_nil, wipeS, Bool.and_self, decide_eq_true_eq, atI0a, atI0b, atI0c, atI1b, atI1c, atI2c]; exact h
      · rw [decide_eq_false c3, Bool.false_or] at h
        simp only [decide_eq_false c3, wSeq, wNext, wIfS, wSetF, wSet, into, wSetIx, wRet, wRetN, wDrop, wB, wBin, wUn, wCB, wCons, wNil, wVar, wC, wIf, wAnd, wOr, wNot, wAndV, wOrV, wNotV, wTup, wLst, wSl, wNoPart, wPart, wChain, wUnp, wgTup, wgCons, wgNil, wName, wIsi, wListRg, wRg1, wRg2, wTupRg, wPuts, puts, Rz.sd, wConsH, wAppend, wExtend, ownL, dI, dI0, dIx, dInt, dAbs, dLen, dMax2, dMin2, dSum, dAll, dAny, dList, dTuple, dAdd, dNeg, dIsN, dNotN, PD.isN, dSl, look, looks, ok, Rz.pd, SD.pd, OD.pd, Rz.cold, Rz.cool, warm, pdsOf, frz, frzAll, leave, argOf, onceB, newBor, isBor, ty_non, ty_bl, ty_int, ty_str, ty_lst, ty_scr, ty_tup, ty_dct, isa, String.reduceBEq, beq_self_eq_true, Bool.false_and, Bool.and_false, Bool.not_true, Bool.or_self, wYes, wCall, backS_0, backS_1, backS_2, backS_3, backS_4, backS_o0, backS_o1, backS_o2, backS_o3, dEq_int, dEq_str, dNeX_int, dNeX_str, List.length_cons, List.length_nil, List.cons_append, List.nil_append, List.replicate, Nat.reduceAdd, Nat.reduceSub, List.getElem?_cons_zero, List.getElem?_cons_succ, Option.bind_some, List.set_cons_zero, List.set_cons_succ, List.map_cons, List.map_nil, List.any_cons, List.any_nil, List.getD_cons_zero, List.getD_cons_succ, true_or, or_true, true_and, and_true, Bool.and_true, Bool.true_and, Bool.or_false, Bool.false_or, Bool.not_false, Bool.not_true, Bool.or_true, Bool.true_or, decide_true, decide_false, wFor, wRng1, wRng2, wLc, wSeqI, items, wEnumX, wCallO, wNever, noOwn, List.all_cons, List.all_nil, wipeS, Bool.and_self, decide_eq_true_eq, atI0a, atI0b, atI0c, atI1b, atI1c, atI2c]; exact h
    · rw [decide_eq_false c1, Bool.false_and] at h
      simp only [decide_eq_false c1, wSeq, wNext, wIfS, wSetF, wSet, into, wSetIx, wRet, wRetN, wDrop, wB, wBin, wUn, wCB, wCons, wNil, wVar, wC, wIf, wAnd, wOr, wNot, wAndV, wOrV, wNotV, wTup, wLst, wSl, wNoPart, wPart, wChain, wUnp, wgTup, wgCons, wgNil, wName, wIsi, wListRg, wRg1, wRg2, wTupRg, wPuts, puts, Rz.sd, wConsH, wAppend, wExtend, ownL, dI, dI0, dIx, dInt, dAbs, dLen, dMax2, dMin2, dSum, dAll, dAny, dList, dTuple, dAdd, dNeg, dIsN, dNotN, PD.isN, dSl, look, looks, ok, Rz.pd, SD.pd, OD.pd, Rz.cold, Rz.cool, warm, pdsOf, frz, frzAll, leave, argOf, onceB, newBor, isBor, ty_non, ty_bl, ty_int, ty_str, ty_lst, ty_scr, ty_tup, ty_dct, isa, String.reduceBEq, beq_self_eq_true, Bool.false_and, Bool.and_false, Bool.not_true, Bool.or_self, wYes, wCall, backS_0, backS_1, backS_2, backS_3, backS_4, backS_o0, backS_o1, backS_o2, backS_o3, dEq_int, dEq_str, dNeX_int, dNeX_str, List.length_cons, List.length_nil, List.cons_append, List.nil_append, List.replicate, Nat.reduceAdd, Nat.reduceSub, List.getElem?_cons_zero, List.getElem?_cons_succ, Option.bind_some, List.set_cons_zero, List.set_cons_succ, List.map_cons, List.map_nil, List.any_cons, List.any_nil, List.getD_cons_zero, List.getD_cons_succ, true_or, or_true, true_and, and_true, Bool.and_true, Bool.true_and, Bool.or_false, Bool.false_or, Bool.not_false, Bool.not_true, Bool.or_true, Bool.true_or, decide_true, decide_false, wFor, wRng1, wRng2, wLc, wSeqI, items, wEnumX, wCallO, wNever, noOwn, List.all_cons, List.all_nil, wipeS, Bool.and_self, decide_eq_true_eq, atI0a, atI0b, atI0c, atI1b, atI1c, atI2c]; exact h
/-! ### enumerated -/
theorem enum_rg (xs : List PD) : enumP xs = (List.range' 0 xs.length).map fun i => PD.tup [.int (i : Nat), xs.getD i .non] := by
  unfold enumP
  refine List.ext_getElem? fun i => ?_
  rw [List.getElem?_mapIdx, List.getElem?_map]
  by_cases h : i < xs.length
  · rw [List.getElem?_eq_getElem h, List.getElem?_range' (by omega)]
    simp [List.getD_eq_getElem?_getD, List.getElem?_eq_getElem h]
  · rw [List.getElem?_eq_none (by omega), List.getElem?_eq_none (by rw [List.length_range']; omega)]
    rfl
end DL

set_option Elab.async false
set_option linter.all false
set_option maxRecDepth 100000
set_option maxHeartbeats 4000000
namespace DL
open PySem L2
/-! ### loops, by what stands ahead of turn k -/
theorem forL_upto {wg : Wg} {wb : Ws} {O : On} (I : Nat → Sl → Prop) : ∀ (ds : List PD) (k : Nat) (ρ : Sl), I k ρ →
    (∀ (j : Nat) (d : PD) (ρ : Sl) (N : Sl → Prop), ds[j]? = some d → I (k + j) ρ → (∀ ρ', I (k + j + 1) ρ' → N ρ') → wg d ρ fun ρ' => wb { nx := N, rt := O.rt, bk := O.nx, ct := N } ρ') →
    (∀ ρ, I (k + ds.length) ρ → O.nx ρ) → forL wg wb ds O ρ
  | [], k, ρ, hI, _, ho => ho ρ hI
  | d :: ds, k, ρ, hI, h, ho => h 0 d ρ _ rfl hI fun ρ' h' => forL_upto I ds (k + 1) ρ' h' (fun j d' ρ N hj hI' hN => h (j + 1) d' ρ N (by simpa using hj) (by
        have e : k + (j + 1) = k + 1 + j := by omega
        rw [e]; exact hI') (fun ρ' q => hN ρ' (by
        have e : k + 1 + j + 1 = k + (j + 1) + 1 := by omega
        rw [e]; exact q)))
      (fun ρ q => ho ρ (by
        have e : k + (d :: ds).length = k + 1 + ds.length := by rw [List.length_cons]; omega
        rw [e]; exact q))
theorem compL_upto {vs : List Nat} {wg : Wg} {wt : Wt} {we : We} {Q : List PD → Sl → Prop} (I : Nat → List PD → Sl → Prop) : ∀ (ds : List PD) (k : Nat) (acc : List PD) (ρ : Sl), I k acc ρ →
    (∀ (j : Nat) (d : PD) (acc : List PD) (ρ : Sl) (N : List PD → Sl → Prop), ds[j]? = some d → I (k + j) acc ρ → (∀ acc' ρ', I (k + j + 1) acc' ρ' → N acc' ρ') → wg d ρ fun ρ' => wt ρ' fun b ρ2 => match b with
      | true => we ρ2 fun r ρ3 => warm r ρ3 ∧ frz [r.cool] ρ3 fun es ρ4 => match es with
        | [y] => acc.length < sizeLine ∧ N (acc ++ [y]) (wipeS ρ4 vs)
        | _ => False
      | false => N acc (wipeS ρ2 vs)) →
    (∀ acc ρ, I (k + ds.length) acc ρ → Q acc ρ) → compL vs wg wt we ds acc Q ρ
  | [], k, acc, ρ, hI, _, ho => ho acc ρ hI
  | d :: ds, k, acc, ρ, hI, h, ho => h 0 d acc ρ (fun acc' ρ' => compL vs wg wt we ds acc' Q ρ') rfl hI fun acc' ρ' h' => compL_upto I ds (k + 1) acc' ρ' h' (fun j d' acc ρ N hj hI' hN => h (j + 1) d' acc ρ N (by simpa using hj) (by
        have e : k + (j + 1) = k + 1 + j := by omega
        rw [e]; exact hI') (fun acc' ρ' q => hN acc' ρ' (by
        have e : k + 1 + j + 1 = k + (j + 1) + 1 := by omega
        rw [e]; exact q)))
      (fun acc ρ q => ho acc ρ (by
        have e : k + (d :: ds).length = k + 1 + ds.length := by rw [List.length_cons]; omega
        rw [e]; exact q))
/-- [g of x for x in ds], slot v being the comprehension's -/
theorem compL_map {v : Nat} {we : We} {g : PD → PD} {ρ : Sl} {Q : List PD → Sl → Prop} (hv : ρ[v]? = some .emp) {ds : List PD} (hz : ds.length < 100000) (h : ∀ d ∈ ds, ∀ Q' : Rz → Sl → Prop, Q' (.dat (g d)) (ρ.set v (.dat d)) → we (ρ.set v (.dat d)) Q')
    (hQ : Q (ds.map g) ρ) : compL [v] (wName v) wYes we ds [] Q ρ := by
  have hl := (List.getElem?_eq_some_iff.mp hv).1
  have back : ∀ s, (ρ.set v s).set v .emp = ρ := fun s => by
    rw [List.set_set]
    refine List.ext_getElem? fun i => ?_
    by_cases hi : i = v
    · subst hi; rw [List.getElem?_set_self hl, hv]
    · rw [List.getElem?_set_ne (Ne.symm hi)]
  refine compL_upto (fun k acc ρ' => ρ' = ρ ∧ acc = (ds.take k).map g) ds 0 [] ρ ⟨rfl, rfl⟩ (fun j d acc ρ' N hj hI hN => ?_) (fun acc ρ' hI => ?_)
  · obtain ⟨rfl, rfl⟩ := hI
    have hjl := (List.getElem?_eq_some_iff.mp hj).1
    simp only [wName, wYes]
    refine h d (List.mem_of_getElem? hj) _ ?_
    simp only [wSeq, wNext, wIfS, wSetF, wSet, into, wSetIx, wRet, wRetN, wDrop, wB, wBin, wUn, wCB, wCons, wNil, wVar, wC, wIf, wAnd, wOr, wNot, wAndV, wOrV, wNotV, wTup, wLst, wSl, wNoPart, wPart, wChain, wUnp, wgTup, wgCons, wgNil, wName, wIsi, wListRg, wRg1, wRg2, wTupRg, wPuts, puts, Rz.sd, wConsH, wAppend, wExtend, ownL, dI, dI0, dIx, dInt, dAbs, dLen, dMax2, dMin2, dSum, dAll, dAny, dList, dTuple, dAdd, dNeg, dIsN, dNotN, PD.isN, dSl, look, looks, ok, Rz.pd, SD.pd, OD.pd, Rz.cold, Rz.cool, warm, pdsOf, frz, frzAll, leave, argOf, onceB, newBor, isBor, ty_non, ty_bl, ty_int, ty_str, ty_lst, ty_scr, ty_tup, ty_dct, isa, String.reduceBEq, beq_self_eq_true, Bool.false_and, Bool.and_false, Bool.not_true, Bool.or_self, wYes, wCall, backS_0, backS_1, backS_2, backS_3, backS_4, backS_o0, backS_o1, backS_o2, backS_o3, dEq_int, dEq_str, dNeX_int, dNeX_str, List.length_cons, List.length_nil, List.cons_append, List.nil_append, List.replicate, Nat.reduceAdd, Nat.reduceSub, List.getElem?_cons_zero, List.getElem?_cons_succ, Option.bind_some, List.set_cons_zero, List.set_cons_succ, List.map_cons, List.map_nil, List.any_cons, List.any_nil, List.getD_cons_zero, List.getD_cons_succ, true_or, or_true, true_and, and_true, Bool.and_true, Bool.true_and, Bool.or_false, Bool.false_or, Bool.not_false, Bool.not_true, Bool.or_true, Bool.true_or, decide_true, decide_false, wFor, wRng1, wRng2, wLc, wSeqI, items, wEnumX, wCallO, wNever, noOwn, List.all_cons, List.all_nil, wipeS, Bool.and_self, decide_eq_true_eq, atI0a, atI0b, atI0c, atI1b, atI1c, atI2c]
    refine ⟨by rw [List.length_map, List.length_take]; exact sz' (by omega), ?_⟩
    refine hN _ _ ⟨back _, ?_⟩
    rw [Nat.zero_add, List.take_add_one, hj, List.map_append]
    rfl
  · obtain ⟨rfl, rfl⟩ := hI
    rw [Nat.zero_add, List.take_length]
    exact hQ
end DL

set_option Elab.async false
set_option linter.all false
set_option maxRecDepth 100000
set_option maxHeartbeats 4000000
set_option exponentiation.threshold 3000
namespace DL
open PySem L2
/-! ### what every law's data side uses (taken over from the texts of k25, k26) -/
theorem seq_by {a b : Ws} {O : On} {ρ : Sl} (I : Sl → Prop) (h : ∀ N : Sl → Prop, (∀ ρ', I ρ' → N ρ') → a { O with nx := N } ρ) (h' : ∀ ρ', I ρ' → b O ρ') : wSeq a b O ρ := h (b O) h'
theorem backS_h0 {o : OD} {ρ as : Sl} : backS (.own o :: ρ) [.bor 0] as = as.getD 0 .emp :: ρ := by rw [backS_o0 (o := o) rfl]; rfl
theorem backS_h1 {o : OD} {ρ as : Sl} {a : PD} : backS (.own o :: ρ) [.bor 0, .dat a] as = as.getD 0 .emp :: ρ := by rw [backS_o1 (o := o) rfl]; rfl
theorem backS_h2 {o : OD} {ρ as : Sl} {a b : PD} : backS (.own o :: ρ) [.bor 0, .dat a, .dat b] as = as.getD 0 .emp :: ρ := by rw [backS_o2 (o := o) rfl]; rfl
theorem seq_to {a b : Ws} {O : On} {ρ ρ' : Sl} (h : ∀ N : Sl → Prop, N ρ' → a { O with nx := N } ρ) (h' : b O ρ') : wSeq a b O ρ := h (b O) h'
theorem range_more {α : Type} (k : Nat) (f : Nat → List α) : (List.range (k + 1)).flatMap f = (List.range k).flatMap f ++ f k := by
  rw [List.range_succ, List.flatMap_append]; simp
theorem flat_len {α : Type} {f : Nat → List α} {c : Nat} (h : ∀ i, (f i).length ≤ c) : ∀ k, ((List.range k).flatMap f).length ≤ k * c
  | 0 => by simp
  | k + 1 => by
    rw [range_more, List.length_append, Nat.add_mul, Nat.one_mul]
    exact Nat.add_le_add (flat_len h k) (h k)
theorem rg_at {n k : Nat} {d : PD} (h : (rgP 0 n)[k]? = some d) : d = .int (k : Int) ∧ k < n := by
  unfold rgP at h
  rw [List.getElem?_map] at h
  have hk : k < n := by
    cases q : (List.range n)[k]? with
    | none => rw [q] at h; cases h
    | some i => have := (List.getElem?_eq_some_iff.mp q).1; rw [List.length_range] at this; exact this
  rw [List.getElem?_range hk] at h
  refine ⟨?_, hk⟩
  have := (Option.some.inj h).symm
  rw [this]
  simp
theorem rg_len {n : Nat} : (rgP 0 n).length = n := by unfold rgP; rw [List.length_map, List.length_range]
def unI : PD → Int
  | .int i => i
  | _ => 0
theorem unI_map (r : List Int) : (r.map PD.int).map unI = r := by
  rw [List.map_map]
  exact List.map_id'' (fun _ => rfl) r
theorem for_len {wg : Wg} {wb : Ws} {O : On} {ρ : Sl} {v : Nat} {xs : List PD} (hv : ρ[v]? = some (.dat (.lst xs))) (hz : xs.length ≤ 1000) (h : forL wg wb (rgP 0 xs.length) O ρ) : wFor (wRng1 (wCons (wCB dLen (wCons (wVar v) wNil)) wNil)) wg wb O ρ := by
  simp only [hv, wSeq, wNext, wIfS, wSetF, wSet, into, wSetIx, wRet, wRetN, wDrop, wB, wBin, wUn, wCB, wCons, wNil, wVar, wC, wIf, wAnd, wOr, DL.wNot, wAndV, wOrV, wNotV, wTup, wLst, wSl, wNoPart, wPart, wChain, wUnp, wgTup, wgCons, wgNil, wName, wIsi, wListRg, wRg1, wRg2, wTupRg, wPuts, puts, Rz.sd, wConsH, wAppend, wExtend, ownL, dI, dI0, dIx, dInt, dAbs, dLen, dMax2, dMin2, dSum, dAll, dAny, dList, dTuple, dAdd, dNeg, dIsN, dNotN, PD.isN, dSl, look, looks, ok, Rz.pd, SD.pd, OD.pd, Rz.cold, Rz.cool, warm, pdsOf, frz, frzAll, leave, argOf, onceB, newBor, isBor, ty_non, ty_bl, ty_int, ty_str, ty_lst, ty_scr, ty_tup, ty_dct, isa, String.reduceBEq, beq_self_eq_true, Bool.false_and, Bool.and_false, Bool.not_true, Bool.or_self, wYes, wCall, backS_0, backS_1, backS_2, backS_3, backS_4, backS_o0, backS_o1, backS_o2, backS_o3, dEq_int, dEq_str, dNeX_int, dNeX_str, List.length_cons, List.length_nil, List.cons_append, List.nil_append, List.replicate, Nat.reduceAdd, Nat.reduceSub, List.getElem?_cons_zero, List.getElem?_cons_succ, Option.bind_some, List.set_cons_zero, List.set_cons_succ, List.map_cons, List.map_nil, List.any_cons, List.any_nil, List.getD_cons_zero, List.getD_cons_succ, true_or, or_true, true_and, and_true, Bool.and_true, Bool.true_and, Bool.or_false, Bool.false_or, Bool.not_false, Bool.not_true, Bool.or_true, Bool.true_or, decide_true, decide_false, wFor, wRng1, wRng2, wLc, wSeqI, items, wEnumX, wCallO, wNever, noOwn, List.all_cons, List.all_nil, wipeS, Bool.and_self, decide_eq_true_eq, atI0a, atI0b, atI0c, atI1b, atI1c, atI2c, wZipX, seqP]
  refine ⟨⟨by omega, by omega⟩, ?_⟩
  have e : (xs.length : Int).toNat = xs.length := by omega
  rw [e]
  exact h
theorem pinned3 {x : SD} {a b : PD} : pinned (pin [0, 1, 2]) [x, .dat a, .dat b] := fun i o e => by
  match i with
  | 0 => rfl
  | 1 => cases e
  | 2 => cases e
  | i + 3 => simp at e
theorem compL_same {vs : List Nat} {wg : Wg} {wt : Wt} {we : We} {g : PD → PD} {ρ : Sl} {Q : List PD → Sl → Prop} {ds : List PD} (hz : ds.length < 100000)
    (h : ∀ d ∈ ds, ∀ (acc : List PD) (N : List PD → Sl → Prop), acc.length < sizeLine → N (acc ++ [g d]) ρ → wg d ρ fun ρ' => wt ρ' fun b ρ2 => match b with
      | true => we ρ2 fun r ρ3 => warm r ρ3 ∧ frz [r.cool] ρ3 fun es ρ4 => match es with
        | [y] => acc.length < sizeLine ∧ N (acc ++ [y]) (wipeS ρ4 vs)
        | _ => False
      | false => N acc (wipeS ρ2 vs)) (hQ : Q (ds.map g) ρ) : compL vs wg wt we ds [] Q ρ := by
  refine compL_upto (fun k acc ρ' => ρ' = ρ ∧ acc = (ds.take k).map g) ds 0 [] ρ ⟨rfl, rfl⟩ (fun j d acc ρ' N hj hI hN => ?_) (fun acc ρ' hI => ?_)
  · obtain ⟨rfl, rfl⟩ := hI
    have hjl := (List.getElem?_eq_some_iff.mp hj).1
    refine h d (List.mem_of_getElem? hj) _ N (by rw [List.length_map, List.length_take]; exact sz' (by omega)) (hN _ _ ⟨rfl, ?_⟩)
    rw [Nat.zero_add, List.take_add_one, hj, List.map_append]
    rfl
  · obtain ⟨rfl, rfl⟩ := hI
    rw [Nat.zero_add, List.take_length]
    exact hQ
theorem ints_plain : ∀ xs : List Int, plainAll (xs.map .int) = true
  | [] => rfl
  | x :: xs => by rw [List.map_cons, plainAll, ints_plain xs]; rfl
theorem ints_lay : ∀ xs : List Int, PyData.canLayAll0 (pyAll (xs.map .int)) = true
  | [] => by simp [pyAll, PyData.canLayAll0]
  | x :: xs => by rw [List.map_cons, pyAll, PyData.canLayAll0, ints_lay xs]; simp [PD.py, PyData.canLay0]
theorem ints_deep : ∀ xs : List Int, PyData.depthAll (pyAll (xs.map .int)) = 0
  | [] => by simp [pyAll, PyData.depthAll]
  | x :: xs => by rw [List.map_cons, pyAll, PyData.depthAll, ints_deep xs]; simp [PD.py, PyData.depth]
theorem cmp_ints (xs : List Int) : cmpOk (.lst (xs.map .int)) := by
  refine ⟨ints_plain xs, ?_⟩
  unfold SeqAt.shaped
  rw [PD.py, PyData.canLay0, ints_lay, PyData.depth, ints_deep]
  rfl
theorem dNe_nil {xs : List Int} {k : Rz → Prop} (h : k (.dat (.bl (!xs.isEmpty)))) : dNeX (.lst (xs.map .int)) (.lst []) k := by
  refine ⟨cmp_ints xs, cmp_ints [], ?_⟩
  cases xs with
  | nil => exact h
  | cons x xs =>
    have e : PyData.eqv (PD.lst (List.map PD.int (x :: xs))).py (PD.lst []).py = false := by simp [PD.py, pyAll, PyData.eqv, PyData.eqvAll]
    rw [e]
    exact h
theorem dNeX_bl {a b : Bool} {k : Rz → Prop} : dNeX (.bl a) (.bl b) k = k (.dat (.bl (!(a == b)))) := by
  show dNe (.bl a) (.bl b) k = _
  unfold dNe
  have e : PyData.eqv (PD.bl a).py (PD.bl b).py = (a == b) := by simp only [PD.py, PyData.eqv]
  rw [e]
  simp [cmp_bl]
def tf (b : Bool) : Str := if b then "True" else "False"
theorem tf_ok (b : Bool) : PyData.strOk (tf b) = true := by cases b <;> decide +kernel
theorem dRepr_bl {b : Bool} {k : Rz → Prop} : dReprX [.bl b] k = k (.dat (.str (tf b))) := by
  have e : (PD.bl b).py.shown = tf b := by
    rw [PD.py, PyData.shown_bool]
    cases b <;> rfl
  have z : showOk (.bl b) := by
    refine ⟨rfl, ?_, ?_, ?_, ?_⟩
    · cases b <;> simp [PD.py, PyData.showable]
    · cases b <;> simp [PD.py, PyData.hasDict]
    · cases b <;> simp [PD.py, PyData.depth]
    · rw [e]
      refine Nat.le_trans ?_ (sz (n := 5) (by decide))
      cases b <;> decide +kernel
  show (showOk (.bl b) ∧ k (.dat (.str (PD.bl b).py.shown))) = _
  rw [e]
  simp [z]
theorem bools_mapF {α : Type} (f : α → Bool) : ∀ xs : List α, bools (xs.map fun x => .bl (f x)) = some (xs.map f)
  | [] => rfl
  | x :: xs => by
    show (match bools (xs.map fun x => .bl (f x)) with | some ns => some (f x :: ns) | none => none) = _
    rw [bools_mapF f xs]; rfl
end DL

set_option Elab.async false
set_option linter.all false
set_option maxRecDepth 100000
set_option maxHeartbeats 4000000
set_option exponentiation.threshold 3000
namespace Lk
open PySem L2 DL
theorem ab4 : AB4 98287 444 10011 93 := by unfold AB4; decide
theorem drw : Drw (FTak4 98287 444 10011 93) (FOf4 98287 444 10011 93) := drw4 ab4
theorem e_take {cl : Nat → Addr} : F__law_take cl = FTak4 98287 444 10011 93 := rfl
theorem e_of {cl : Nat → Addr} : F__law_of cl = FOf4 98287 444 10011 93 := rfl
theorem e_some {cl : Nat → Addr} : F__law_some cl = FLawSome (FTak4 98287 444 10011 93) := rfl
theorem e_lengths {cl : Nat → Addr} : F__law_lengths cl = FLawLengths (FTak4 98287 444 10011 93) (FLawSome (FTak4 98287 444 10011 93)) := rfl
theorem e_fig {cl : Nat → Addr} : F__law_figures_stages cl = FFigSt (FOf4 98287 444 10011 93) := rfl
theorem e_device {cl : Nat → Addr} : F__law_device cl = FLawDevice (FTak4 98287 444 10011 93) (FLawSome (FTak4 98287 444 10011 93)) (FFigSt (FOf4 98287 444 10011 93)) (FLawLengths (FTak4 98287 444 10011 93) (FLawSome (FTak4 98287 444 10011 93))) := rfl
theorem e_text {cl : Nat → Addr} : F__law_device_text cl = FLawText := rfl
theorem e_stages {cl : Nat → Addr} : F_read_stages cl = FReadStages (fun Ξ => wRaise (cl 0) Ξ (wCons (wC (.int 0)) wNil)) (rNum (cl 0)) := rfl
/-- lines of no device: the i-th is the first bad one -/
structure Bad (lines : List Str) (i : Nat) : Prop where
  len : lines.length ≤ 14
  fr : ∀ l ∈ lines, 10 ∉ TL.tl l ∧ l.length ≤ 60 ∧ LineOk l
  lt : i < lines.length
  good : ∀ j < i, j < 6 ∧ lineRes (lines.getD j Str.empty) ≠ .non
  bad : 6 ≤ i ∨ lineRes (lines.getD i Str.empty) = .non
def badRows : List Str := ["", "stage", "stage ", "stage 0", "stage 0 0", "stage 1 2 1", "stage 0 1 2 3 4", "stages 0 1", "Stage 0 1", "0 1", "stage 0 1000001", "stage 0 -1", "stage 00 1", "stage 0 01", "stage 0 x", "stage 0 1 ", " stage 0 1", "stage  0 1", "stage 0  1", "stage 0,1", "stage 0 +1", "stage 0 1.0", "stage 1000000000 0", "stage 0 1 2 2"]
def lineB (l : Str) : Bool := !(TL.tl l).contains 10 && decide (l.length ≤ 60) && (Txt.split l (" " : Str)).all fun w => PyData.strOk w && decide (w.length ≤ 10000)
theorem line_b {l : Str} (h : lineB l = true) : 10 ∉ TL.tl l ∧ l.length ≤ 60 ∧ LineOk l := by
  unfold lineB at h
  rw [Bool.and_eq_true, Bool.and_eq_true] at h
  obtain ⟨⟨h1, h2⟩, h3⟩ := h
  have h2 := of_decide_eq_true h2
  refine ⟨fun z => ?_, h2, by omega, fun w hw => ?_⟩
  · rw [List.contains_iff_mem.mpr z] at h1
    cases h1
  · have := List.all_eq_true.mp h3 w hw
    rw [Bool.and_eq_true] at this
    exact ⟨this.1, of_decide_eq_true this.2⟩
theorem bad_all : (badRows.all fun l => lineB l && (lineRes l).isN) = true := by decide +kernel
theorem bad_row {l : Str} (h : l ∈ badRows) : (10 ∉ TL.tl l ∧ l.length ≤ 60 ∧ LineOk l) ∧ lineRes l = .non := by
  have := List.all_eq_true.mp bad_all l h
  rw [Bool.and_eq_true] at this
  refine ⟨line_b this.1, ?_⟩
  have h2 := this.2
  cases hr : lineRes l <;> rw [hr] at h2 <;> first | rfl | cases h2
theorem some_all : ([("stage 0 1" : Str), "stage 0 5", "", "x"].all lineB) = true := by decide +kernel
theorem good_two : (lineRes ("stage 0 1" : Str)).isN = false := by decide +kernel
theorem line_free {ls : List Int} (hs : Stg ls) : 10 ∉ TL.tl (lineOf ls) ∧ (lineOf ls).length ≤ 60 ∧ LineOk (lineOf ls) :=
  ⟨tl_join (by rw [tl_blank]; decide) (words_free hs (.inr rfl)), by have := line_len hs; omega, line_ok hs⟩
theorem line_some {l : Str} (h : l = "stage 0 1" ∨ l = "stage 0 5" ∨ l = "" ∨ l = "x") : 10 ∉ TL.tl l ∧ l.length ≤ 60 ∧ LineOk l := by
  refine line_b (List.all_eq_true.mp some_all l ?_)
  rcases h with rfl | rfl | rfl | rfl
  · exact List.mem_cons_self
  · exact List.mem_cons_of_mem _ List.mem_cons_self
  · exact List.mem_cons_of_mem _ (List.mem_cons_of_mem _ List.mem_cons_self)
  · exact List.mem_cons_of_mem _ (List.mem_cons_of_mem _ (List.mem_cons_of_mem _ List.mem_cons_self))
theorem line_good {sts : List (List Int)} (hs : Stgs sts) {j : Nat} (hj : j < sts.length) : (sts.map lineOf)[j]? = some (lineOf sts[j]) ∧ lineRes (lineOf sts[j]) ≠ .non := by
  refine ⟨by rw [List.getElem?_map, List.getElem?_eq_getElem hj]; rfl, ?_⟩
  rw [stage_res (hs.2.2 _ (List.getElem_mem hj))]
  intro z
  cases z
theorem two_good : lineRes ("stage 0 1" : Str) ≠ .non := fun z => by
  have := good_two
  rw [z] at this
  cases this
theorem fr_rows {sts : List (List Int)} (hs : Stgs sts) : ∀ l ∈ sts.map lineOf, 10 ∉ TL.tl l ∧ l.length ≤ 60 ∧ LineOk l := fun l hl => by
  obtain ⟨ls, h, rfl⟩ := List.mem_map.mp hl
  exact line_free (hs.2.2 ls h)
theorem bad_a {sts : List (List Int)} (hs : Stgs sts) {x : Str} (hx : x = "stage 0 1" ∨ x = "" ∨ x = "x") : Bad (sts.map lineOf ++ (List.replicate (6 - sts.length) ("stage 0 1" : Str) ++ [("stage 0 1" : Str), x])) 6 := by
  have h1 := hs.1
  have h6 := hs.2.1
  refine ⟨by simp; omega, fun l hl => ?_, by simp; omega, fun j hj => ⟨hj, ?_⟩, .inl (Nat.le_refl _)⟩
  · rcases List.mem_append.mp hl with h | h
    · exact fr_rows hs l h
    rcases List.mem_append.mp h with h | h
    · exact line_some (.inl (List.eq_of_mem_replicate h))
    · rcases List.mem_cons.mp h with h | h
      · exact line_some (.inl h)
      · have h := List.mem_singleton.mp h
        subst h
        rcases hx with hx | hx | hx
        · exact line_some (.inl hx)
        · exact line_some (.inr (.inr (.inl hx)))
        · exact line_some (.inr (.inr (.inr hx)))
  · rw [List.getD_eq_getElem?_getD]
    by_cases hjn : j < sts.length
    · rw [List.getElem?_append_left (by rw [List.length_map]; exact hjn), (line_good hs hjn).1]
      exact (line_good hs hjn).2
    · rw [List.getElem?_append_right (by rw [List.length_map]; omega), List.length_map, List.getElem?_append_left (by rw [List.length_replicate]; omega), List.getElem?_replicate, if_pos (by omega)]
      exact two_good
theorem bad_b {sts : List (List Int)} (hs : Stgs sts) (h : sts.length = 6) : Bad (sts.map lineOf ++ [("stage 0 5" : Str)]) 6 := by
  refine ⟨by simp; omega, fun l hl => ?_, by simp; omega, fun j hj => ⟨hj, ?_⟩, .inl (Nat.le_refl _)⟩
  · rcases List.mem_append.mp hl with h | h
    · exact fr_rows hs l h
    · exact line_some (.inr (.inl (List.mem_singleton.mp h)))
  · rw [List.getD_eq_getElem?_getD, List.getElem?_append_left (by rw [List.length_map]; omega), (line_good hs (by omega)).1]
    exact (line_good hs (by omega)).2
theorem bad_c {sts : List (List Int)} (hs : Stgs sts) {c t : Nat} (hc : c ≤ sts.length) (h6 : c ≠ 6) {l : Str} (hl : l ∈ badRows) : Bad ((sts.map lineOf).take c ++ [l] ++ (sts.map lineOf).drop (c + t)) c := by
  have hn := hs.2.1
  obtain ⟨hf, hr⟩ := bad_row hl
  have ht : ((sts.map lineOf).take c).length = c := by rw [List.length_take, List.length_map]; omega
  refine ⟨by simp; omega, fun x hx => ?_, by simp; omega, fun j hj => ⟨by omega, ?_⟩, .inr ?_⟩
  · rcases List.mem_append.mp hx with h | h
    · rcases List.mem_append.mp h with h | h
      · exact fr_rows hs x (List.mem_of_mem_take h)
      · rw [List.mem_singleton.mp h]; exact hf
    · exact fr_rows hs x (List.mem_of_mem_drop h)
  · rw [List.getD_eq_getElem?_getD, List.append_assoc, List.getElem?_append_left (by omega), List.getElem?_take_of_lt hj, (line_good hs (by omega)).1]
    exact (line_good hs (by omega)).2
  · rw [List.getD_eq_getElem?_getD, List.append_assoc, List.getElem?_append_right (by omega), ht, Nat.sub_self]
    exact hr
theorem badRows_ok {cl : Nat → Addr} {Q : Rz → Sl → Prop} {Ξ : Xp} (h : Q (.own (.lst (badRows.map .str))) []) : F__law_bad_rows cl [] Q Ξ := by
  unfold F__law_bad_rows mkF
  refine ⟨fun i o e => by simp at e, ?_⟩
  unfold w__law_bad_rows
  have z8 : (8 : Nat) ≤ sizeLine := sz (by decide)
  have z7 : (7 : Nat) ≤ sizeLine := sz (by decide)
  have z5 : (5 : Nat) ≤ sizeLine := sz (by decide)
  have z2 : (2 : Nat) ≤ sizeLine := sz (by decide)
  simp only [z8, z7, z5, z2, wSeq, wNext, wIfS, wSetF, wSet, into, wSetIx, wRet, wRetN, wDrop, wB, wBin, wUn, wCB, wCons, wNil, wVar, wC, wIf, wAnd, wOr, DL.wNot, wAndV, wOrV, wNotV, wTup, wLst, wSl, wNoPart, wPart, wChain, wUnp, wgTup, wgCons, wgNil, wName, wIsi, wListRg, wRg1, wRg2, wTupRg, wPuts, puts, Rz.sd, wConsH, wAppend, wExtend, ownL, dI, dI0, dIx, dInt, dAbs, dLen, dMax2, dMin2, dSum, dSumX, dAll, dAny, dList, dTuple, dAdd, dNeg, dIsN, dNotN, PD.isN, dSl, look, looks, ok, Rz.pd, SD.pd, OD.pd, Rz.cold, Rz.cool, warm, pdsOf, frz, frzAll, leave, argOf, onceB, newBor, isBor, ty_non, ty_bl, ty_int, ty_str, ty_lst, ty_scr, ty_tup, ty_dct, isa, String.reduceBEq, beq_self_eq_true, Bool.false_and, Bool.and_false, Bool.not_true, Bool.or_self, wYes, wCall, backS_0, backS_1, backS_2, backS_3, backS_4, backS_o0, backS_o1, backS_o2, backS_o3, dEq_int, dEq_str, dNeX_int, dNeX_str, List.length_cons, List.length_nil, List.cons_append, List.nil_append, List.replicate, Nat.reduceAdd, Nat.reduceSub, List.getElem?_cons_zero, List.getElem?_cons_succ, Option.bind_some, List.set_cons_zero, List.set_cons_succ, List.map_cons, List.map_nil, List.any_cons, List.any_nil, List.getD_cons_zero, List.getD_cons_succ, true_or, or_true, true_and, and_true, Bool.and_true, Bool.true_and, Bool.or_false, Bool.false_or, Bool.not_false, Bool.not_true, Bool.or_true, Bool.true_or, decide_true, decide_false, wFor, wRng1, wRng2, wLc, wSeqI, items, wEnumX, wCallO, wNever, noOwn, List.all_cons, List.all_nil, wipeS, Bool.and_self, decide_eq_true_eq, atI0a, atI0b, atI0c, atI1b, atI1c, atI2c, wZipX, seqP, wRaise, wIsE, wVal, wMk, wPopAt, wPop, wAug, wTr, dTr, dLtX, dDivmod, wPick, pick, List.filterMap_cons, List.filterMap_nil]
  exact ⟨.inr ⟨_, rfl⟩, sz (by decide), .inr ⟨_, rfl⟩, sz (by decide), .inr ⟨_, rfl⟩, sz (by decide), sz (by decide), h⟩
end Lk

set_option Elab.async false
set_option linter.all false
set_option maxRecDepth 100000
set_option maxHeartbeats 4000000
set_option exponentiation.threshold 3000
namespace Lk
open PySem L2 DL
theorem cut_to' {α : Type} (xs : List α) (s : Nat) : cutP xs none (some (s : Int)) = xs.take s := by
  unfold cutP
  rw [HT.sIx_none, HT.sIx_nat]
  simp only [List.drop_zero, Nat.sub_zero]
  by_cases h : s ≤ xs.length
  · rw [Nat.min_eq_left h]
  · rw [Nat.min_eq_right (by omega), List.take_of_length_le (Nat.le_refl _), List.take_of_length_le (by omega)]
theorem cut_from' {α : Type} (xs : List α) (s : Nat) : cutP xs (some (s : Int)) none = xs.drop s := by
  unfold cutP
  rw [HT.sIx_none, HT.sIx_nat]
  by_cases h : s ≤ xs.length
  · rw [Nat.min_eq_left h, List.take_of_length_le (by rw [List.length_drop]; omega)]
  · rw [Nat.min_eq_right (by omega), List.drop_of_length_le (Nat.le_refl _), List.drop_of_length_le (by omega), List.take_nil]
theorem rep_flat {α : Type} (x : α) : ∀ n : Nat, (List.replicate n [x]).flatten = List.replicate n x
  | 0 => rfl
  | n + 1 => by rw [List.replicate_succ, List.flatten_cons, rep_flat x n, List.replicate_succ]; rfl
theorem spoilt_ok {cl : Nat → Addr} {m : Int} {s : SD} {sts : List (List Int)} {Q : Rz → Sl → Prop} {Ξ : Xp} (hp : Pot m s) (hm : m ≤ 100000) (hs : Stgs sts)
    (h : ∀ lines i s', Bad lines i → Pot (m + 4) s' → Q (.dat (.tup [.lst (lines.map .str), .int ((i + 1 : Nat) : Int)])) [s', .dat (.lst (sts.map lsI))]) : F__law_spoilt cl [s, .dat (.lst (sts.map lsI))] Q Ξ := by
  obtain ⟨o, rfl⟩ := hp.own
  have h1 := hs.1
  have h6 := hs.2.1
  have z2 : (2 : Nat) ≤ sizeLine := sz (by decide)
  have z1 : (1 : Nat) ≤ sizeLine := sz (by decide)
  have hln : (((sts.map lineOf).map PD.str).length : Int) = sts.length := by rw [List.length_map, List.length_map]
  unfold F__law_spoilt mkF
  refine ⟨pinned2 (fun o z => by cases z), ?_⟩
  unfold w__law_spoilt
  refine seq_to (ρ' := [.own o, .dat (.lst (sts.map lsI)), .dat (.lst ((sts.map lineOf).map .str)), .emp, .emp]) (fun N hN => ?_) ?_
  · simp only [e_text, wSeq, wNext, wIfS, wSetF, wSet, into, wSetIx, wRet, wRetN, wDrop, wB, wBin, wUn, wCB, wCons, wNil, wVar, wC, wIf, wAnd, wOr, DL.wNot, wAndV, wOrV, wNotV, wTup, wLst, wSl, wNoPart, wPart, wChain, wUnp, wgTup, wgCons, wgNil, wName, wIsi, wListRg, wRg1, wRg2, wTupRg, wPuts, puts, Rz.sd, wConsH, wAppend, wExtend, ownL, dI, dI0, dIx, dInt, dAbs, dLen, dMax2, dMin2, dSum, dSumX, dAll, dAny, dList, dTuple, dAdd, dNeg, dIsN, dNotN, PD.isN, dSl, look, looks, ok, Rz.pd, SD.pd, OD.pd, Rz.cold, Rz.cool, warm, pdsOf, frz, frzAll, leave, argOf, onceB, newBor, isBor, ty_non, ty_bl, ty_int, ty_str, ty_lst, ty_scr, ty_tup, ty_dct, isa, String.reduceBEq, beq_self_eq_true, Bool.false_and, Bool.and_false, Bool.not_true, Bool.or_self, wYes, wCall, backS_0, backS_1, backS_2, backS_3, backS_4, backS_o0, backS_o1, backS_o2, backS_o3, dEq_int, dEq_str, dNeX_int, dNeX_str, List.length_cons, List.length_nil, List.cons_append, List.nil_append, List.replicate, Nat.reduceAdd, Nat.reduceSub, List.getElem?_cons_zero, List.getElem?_cons_succ, Option.bind_some, List.set_cons_zero, List.set_cons_succ, List.map_cons, List.map_nil, List.any_cons, List.any_nil, List.getD_cons_zero, List.getD_cons_succ, true_or, or_true, true_and, and_true, Bool.and_true, Bool.true_and, Bool.or_false, Bool.false_or, Bool.not_false, Bool.not_true, Bool.or_true, Bool.true_or, decide_true, decide_false, wFor, wRng1, wRng2, wLc, wSeqI, items, wEnumX, wCallO, wNever, noOwn, List.all_cons, List.all_nil, wipeS, Bool.and_self, decide_eq_true_eq, atI0a, atI0b, atI0c, atI1b, atI1c, atI2c, wZipX, seqP, wRaise, wIsE, wVal, wMk, wPopAt, wPop, wAug, wTr, dTr, dLtX, dDivmod, wPick, pick, List.filterMap_cons, List.filterMap_nil, wJoin, wSplit, wStrP, dIntS, wFld, wEnumS, wLenSetT, wLenO, wMake, dStr, List.lookup, dIsB, dNotB]
    refine lawText_ok (.inl rfl) hs ?_
    have nb : ((("\n" : Str)).length == 0) = false := by decide +kernel
    have hz := dev_len hs
    have z3 : (devText sts).length + 2 ≤ sizeLine := sz (by omega)
    simp only [split_dev hs, nb, z3, wSeq, wNext, wIfS, wSetF, wSet, into, wSetIx, wRet, wRetN, wDrop, wB, wBin, wUn, wCB, wCons, wNil, wVar, wC, wIf, wAnd, wOr, DL.wNot, wAndV, wOrV, wNotV, wTup, wLst, wSl, wNoPart, wPart, wChain, wUnp, wgTup, wgCons, wgNil, wName, wIsi, wListRg, wRg1, wRg2, wTupRg, wPuts, puts, Rz.sd, wConsH, wAppend, wExtend, ownL, dI, dI0, dIx, dInt, dAbs, dLen, dMax2, dMin2, dSum, dSumX, dAll, dAny, dList, dTuple, dAdd, dNeg, dIsN, dNotN, PD.isN, dSl, look, looks, ok, Rz.pd, SD.pd, OD.pd, Rz.cold, Rz.cool, warm, pdsOf, frz, frzAll, leave, argOf, onceB, newBor, isBor, ty_non, ty_bl, ty_int, ty_str, ty_lst, ty_scr, ty_tup, ty_dct, isa, String.reduceBEq, beq_self_eq_true, Bool.false_and, Bool.and_false, Bool.not_true, Bool.or_self, wYes, wCall, backS_0, backS_1, backS_2, backS_3, backS_4, backS_o0, backS_o1, backS_o2, backS_o3, dEq_int, dEq_str, dNeX_int, dNeX_str, List.length_cons, List.length_nil, List.cons_append, List.nil_append, List.replicate, Nat.reduceAdd, Nat.reduceSub, List.getElem?_cons_zero, List.getElem?_cons_succ, Option.bind_some, List.set_cons_zero, List.set_cons_succ, List.map_cons, List.map_nil, List.any_cons, List.any_nil, List.getD_cons_zero, List.getD_cons_succ, true_or, or_true, true_and, and_true, Bool.and_true, Bool.true_and, Bool.or_false, Bool.false_or, Bool.not_false, Bool.not_true, Bool.or_true, Bool.true_or, decide_true, decide_false, wFor, wRng1, wRng2, wLc, wSeqI, items, wEnumX, wCallO, wNever, noOwn, List.all_cons, List.all_nil, wipeS, Bool.and_self, decide_eq_true_eq, atI0a, atI0b, atI0c, atI1b, atI1c, atI2c, wZipX, seqP, wRaise, wIsE, wVal, wMk, wPopAt, wPop, wAug, wTr, dTr, dLtX, dDivmod, wPick, pick, List.filterMap_cons, List.filterMap_nil, wJoin, wSplit, wStrP, dIntS, wFld, wEnumS, wLenSetT, wLenO, wMake, dStr, List.lookup, dIsB, dNotB]
    exact ⟨.inr ⟨_, rfl⟩, hN⟩
  refine seq_by (fun ρ => ∃ s', Pot (m + 1) s' ∧ ρ = [s', .dat (.lst (sts.map lsI)), .dat (.lst ((sts.map lineOf).map .str)), .emp, .emp]) (fun N hN => ?_) (fun ρ hρ => ?_)
  · simp only [e_take, wSeq, wNext, wIfS, wSetF, wSet, into, wSetIx, wRet, wRetN, wDrop, wB, wBin, wUn, wCB, wCons, wNil, wVar, wC, wIf, wAnd, wOr, DL.wNot, wAndV, wOrV, wNotV, wTup, wLst, wSl, wNoPart, wPart, wChain, wUnp, wgTup, wgCons, wgNil, wName, wIsi, wListRg, wRg1, wRg2, wTupRg, wPuts, puts, Rz.sd, wConsH, wAppend, wExtend, ownL, dI, dI0, dIx, dInt, dAbs, dLen, dMax2, dMin2, dSum, dSumX, dAll, dAny, dList, dTuple, dAdd, dNeg, dIsN, dNotN, PD.isN, dSl, look, looks, ok, Rz.pd, SD.pd, OD.pd, Rz.cold, Rz.cool, warm, pdsOf, frz, frzAll, leave, argOf, onceB, newBor, isBor, ty_non, ty_bl, ty_int, ty_str, ty_lst, ty_scr, ty_tup, ty_dct, isa, String.reduceBEq, beq_self_eq_true, Bool.false_and, Bool.and_false, Bool.not_true, Bool.or_self, wYes, wCall, backS_0, backS_1, backS_2, backS_3, backS_4, backS_o0, backS_o1, backS_o2, backS_o3, dEq_int, dEq_str, dNeX_int, dNeX_str, List.length_cons, List.length_nil, List.cons_append, List.nil_append, List.replicate, Nat.reduceAdd, Nat.reduceSub, List.getElem?_cons_zero, List.getElem?_cons_succ, Option.bind_some, List.set_cons_zero, List.set_cons_succ, List.map_cons, List.map_nil, List.any_cons, List.any_nil, List.getD_cons_zero, List.getD_cons_succ, true_or, or_true, true_and, and_true, Bool.and_true, Bool.true_and, Bool.or_false, Bool.false_or, Bool.not_false, Bool.not_true, Bool.or_true, Bool.true_or, decide_true, decide_false, wFor, wRng1, wRng2, wLc, wSeqI, items, wEnumX, wCallO, wNever, noOwn, List.all_cons, List.all_nil, wipeS, Bool.and_self, decide_eq_true_eq, atI0a, atI0b, atI0c, atI1b, atI1c, atI2c, wZipX, seqP, wRaise, wIsE, wVal, wMk, wPopAt, wPop, wAug, wTr, dTr, dLtX, dDivmod, wPick, pick, List.filterMap_cons, List.filterMap_nil]
    refine drw.tk (n := 4) hp (by omega) (by omega) (sm_of (by decide)) fun c s2 c0 c1 hp => ?_
    obtain ⟨o2, rfl⟩ := hp.own
    simp only [backS_h1, dEq_int, wSeq, wNext, wIfS, wSetF, wSet, into, wSetIx, wRet, wRetN, wDrop, wB, wBin, wUn, wCB, wCons, wNil, wVar, wC, wIf, wAnd, wOr, DL.wNot, wAndV, wOrV, wNotV, wTup, wLst, wSl, wNoPart, wPart, wChain, wUnp, wgTup, wgCons, wgNil, wName, wIsi, wListRg, wRg1, wRg2, wTupRg, wPuts, puts, Rz.sd, wConsH, wAppend, wExtend, ownL, dI, dI0, dIx, dInt, dAbs, dLen, dMax2, dMin2, dSum, dSumX, dAll, dAny, dList, dTuple, dAdd, dNeg, dIsN, dNotN, PD.isN, dSl, look, looks, ok, Rz.pd, SD.pd, OD.pd, Rz.cold, Rz.cool, warm, pdsOf, frz, frzAll, leave, argOf, onceB, newBor, isBor, ty_non, ty_bl, ty_int, ty_str, ty_lst, ty_scr, ty_tup, ty_dct, isa, String.reduceBEq, beq_self_eq_true, Bool.false_and, Bool.and_false, Bool.not_true, Bool.or_self, wYes, wCall, backS_0, backS_1, backS_2, backS_3, backS_4, backS_o0, backS_o1, backS_o2, backS_o3, dEq_int, dEq_str, dNeX_int, dNeX_str, List.length_cons, List.length_nil, List.cons_append, List.nil_append, List.replicate, Nat.reduceAdd, Nat.reduceSub, List.getElem?_cons_zero, List.getElem?_cons_succ, Option.bind_some, List.set_cons_zero, List.set_cons_succ, List.map_cons, List.map_nil, List.any_cons, List.any_nil, List.getD_cons_zero, List.getD_cons_succ, true_or, or_true, true_and, and_true, Bool.and_true, Bool.true_and, Bool.or_false, Bool.false_or, Bool.not_false, Bool.not_true, Bool.or_true, Bool.true_or, decide_true, decide_false, wFor, wRng1, wRng2, wLc, wSeqI, items, wEnumX, wCallO, wNever, noOwn, List.all_cons, List.all_nil, wipeS, Bool.and_self, decide_eq_true_eq, atI0a, atI0b, atI0c, atI1b, atI1c, atI2c, wZipX, seqP, wRaise, wIsE, wVal, wMk, wPopAt, wPop, wAug, wTr, dTr, dLtX, dDivmod, wPick, pick, List.filterMap_cons, List.filterMap_nil]
    by_cases hc : c = 0
    · simp only [hc, decide_true, z1, e_of, wDrop, wSeq, wNext, wIfS, wSetF, wSet, into, wSetIx, wRet, wRetN, wDrop, wB, wBin, wUn, wCB, wCons, wNil, wVar, wC, wIf, wAnd, wOr, DL.wNot, wAndV, wOrV, wNotV, wTup, wLst, wSl, wNoPart, wPart, wChain, wUnp, wgTup, wgCons, wgNil, wName, wIsi, wListRg, wRg1, wRg2, wTupRg, wPuts, puts, Rz.sd, wConsH, wAppend, wExtend, ownL, dI, dI0, dIx, dInt, dAbs, dLen, dMax2, dMin2, dSum, dSumX, dAll, dAny, dList, dTuple, dAdd, dNeg, dIsN, dNotN, PD.isN, dSl, look, looks, ok, Rz.pd, SD.pd, OD.pd, Rz.cold, Rz.cool, warm, pdsOf, frz, frzAll, leave, argOf, onceB, newBor, isBor, ty_non, ty_bl, ty_int, ty_str, ty_lst, ty_scr, ty_tup, ty_dct, isa, String.reduceBEq, beq_self_eq_true, Bool.false_and, Bool.and_false, Bool.not_true, Bool.or_self, wYes, wCall, backS_0, backS_1, backS_2, backS_3, backS_4, backS_o0, backS_o1, backS_o2, backS_o3, dEq_int, dEq_str, dNeX_int, dNeX_str, List.length_cons, List.length_nil, List.cons_append, List.nil_append, List.replicate, Nat.reduceAdd, Nat.reduceSub, List.getElem?_cons_zero, List.getElem?_cons_succ, Option.bind_some, List.set_cons_zero, List.set_cons_succ, List.map_cons, List.map_nil, List.any_cons, List.any_nil, List.getD_cons_zero, List.getD_cons_succ, true_or, or_true, true_and, and_true, Bool.and_true, Bool.true_and, Bool.or_false, Bool.false_or, Bool.not_false, Bool.not_true, Bool.or_true, Bool.true_or, decide_true, decide_false, wFor, wRng1, wRng2, wLc, wSeqI, items, wEnumX, wCallO, wNever, noOwn, List.all_cons, List.all_nil, wipeS, Bool.and_self, decide_eq_true_eq, atI0a, atI0b, atI0c, atI1b, atI1c, atI2c, wZipX, seqP, wRaise, wIsE, wVal, wMk, wPopAt, wPop, wAug, wTr, dTr, dLtX, dDivmod, wPick, pick, List.filterMap_cons, List.filterMap_nil, wJoin, wSplit, wStrP, dIntS, wFld, wEnumS, wLenSetT, wLenO, wMake, dStr, List.lookup, dIsB, dNotB]
      refine ⟨.inr ⟨_, rfl⟩, ?_⟩
      rw [hln]
      refine ⟨⟨by omega, by omega⟩, by decide, ?_⟩
      rw [show (6 - (sts.length : Int)).toNat = 6 - sts.length by omega, rep_flat]
      refine ⟨.inr ⟨_, rfl⟩, sz (by decide), .inr ⟨_, rfl⟩, ?_⟩
      refine drw.of (xs := [.str ("stage 0 1" : Str), .str ("" : Str), .str ("x" : Str)]) hp (by omega) (by decide) (by decide) fun x s3 hx hp => ?_
      obtain ⟨t, rfl, ht⟩ : ∃ t : Str, x = .str t ∧ (t = "stage 0 1" ∨ t = "" ∨ t = "x") := by
        simp only [List.mem_cons, List.not_mem_nil, or_false] at hx
        rcases hx with rfl | rfl | rfl
        · exact ⟨_, rfl, .inl rfl⟩
        · exact ⟨_, rfl, .inr (.inl rfl)⟩
        · exact ⟨_, rfl, .inr (.inr rfl)⟩
      obtain ⟨o3, rfl⟩ := hp.own
      simp only [wSeq, wNext, wIfS, wSetF, wSet, into, wSetIx, wRet, wRetN, wDrop, wB, wBin, wUn, wCB, wCons, wNil, wVar, wC, wIf, wAnd, wOr, DL.wNot, wAndV, wOrV, wNotV, wTup, wLst, wSl, wNoPart, wPart, wChain, wUnp, wgTup, wgCons, wgNil, wName, wIsi, wListRg, wRg1, wRg2, wTupRg, wPuts, puts, Rz.sd, wConsH, wAppend, wExtend, ownL, dI, dI0, dIx, dInt, dAbs, dLen, dMax2, dMin2, dSum, dSumX, dAll, dAny, dList, dTuple, dAdd, dNeg, dIsN, dNotN, PD.isN, dSl, look, looks, ok, Rz.pd, SD.pd, OD.pd, Rz.cold, Rz.cool, warm, pdsOf, frz, frzAll, leave, argOf, onceB, newBor, isBor, ty_non, ty_bl, ty_int, ty_str, ty_lst, ty_scr, ty_tup, ty_dct, isa, String.reduceBEq, beq_self_eq_true, Bool.false_and, Bool.and_false, Bool.not_true, Bool.or_self, wYes, wCall, backS_0, backS_1, backS_2, backS_3, backS_4, backS_o0, backS_o1, backS_o2, backS_o3, dEq_int, dEq_str, dNeX_int, dNeX_str, List.length_cons, List.length_nil, List.cons_append, List.nil_append, List.replicate, Nat.reduceAdd, Nat.reduceSub, List.getElem?_cons_zero, List.getElem?_cons_succ, Option.bind_some, List.set_cons_zero, List.set_cons_succ, List.map_cons, List.map_nil, List.any_cons, List.any_nil, List.getD_cons_zero, List.getD_cons_succ, true_or, or_true, true_and, and_true, Bool.and_true, Bool.true_and, Bool.or_false, Bool.false_or, Bool.not_false, Bool.not_true, Bool.or_true, Bool.true_or, decide_true, decide_false, wFor, wRng1, wRng2, wLc, wSeqI, items, wEnumX, wCallO, wNever, noOwn, List.all_cons, List.all_nil, wipeS, Bool.and_self, decide_eq_true_eq, atI0a, atI0b, atI0c, atI1b, atI1c, atI2c, wZipX, seqP, wRaise, wIsE, wVal, wMk, wPopAt, wPop, wAug, wTr, dTr, dLtX, dDivmod, wPick, pick, List.filterMap_cons, List.filterMap_nil, wJoin, wSplit, wStrP, dIntS, wFld, wEnumS, wLenSetT, wLenO, wMake, dStr, List.lookup, dIsB, dNotB]
      have e := h _ 6 _ (bad_a hs ht) (hp.mono (by omega))
      simp only [List.map_append, List.map_replicate, List.map_cons, List.map_nil] at e
      simp only [List.map_map] at e ⊢
      exact ⟨z2, sz (by rw [List.length_replicate]; omega), .inr ⟨_, rfl⟩, sz (by rw [List.length_map, List.length_append, List.length_replicate]; simp only [List.length_cons, List.length_nil]; omega), .inr ⟨_, rfl⟩, z2, e⟩
    · simp only [hc, decide_false, wSeq, wNext, wIfS, wSetF, wSet, into, wSetIx, wRet, wRetN, wDrop, wB, wBin, wUn, wCB, wCons, wNil, wVar, wC, wIf, wAnd, wOr, DL.wNot, wAndV, wOrV, wNotV, wTup, wLst, wSl, wNoPart, wPart, wChain, wUnp, wgTup, wgCons, wgNil, wName, wIsi, wListRg, wRg1, wRg2, wTupRg, wPuts, puts, Rz.sd, wConsH, wAppend, wExtend, ownL, dI, dI0, dIx, dInt, dAbs, dLen, dMax2, dMin2, dSum, dSumX, dAll, dAny, dList, dTuple, dAdd, dNeg, dIsN, dNotN, PD.isN, dSl, look, looks, ok, Rz.pd, SD.pd, OD.pd, Rz.cold, Rz.cool, warm, pdsOf, frz, frzAll, leave, argOf, onceB, newBor, isBor, ty_non, ty_bl, ty_int, ty_str, ty_lst, ty_scr, ty_tup, ty_dct, isa, String.reduceBEq, beq_self_eq_true, Bool.false_and, Bool.and_false, Bool.not_true, Bool.or_self, wYes, wCall, backS_0, backS_1, backS_2, backS_3, backS_4, backS_o0, backS_o1, backS_o2, backS_o3, dEq_int, dEq_str, dNeX_int, dNeX_str, List.length_cons, List.length_nil, List.cons_append, List.nil_append, List.replicate, Nat.reduceAdd, Nat.reduceSub, List.getElem?_cons_zero, List.getElem?_cons_succ, Option.bind_some, List.set_cons_zero, List.set_cons_succ, List.map_cons, List.map_nil, List.any_cons, List.any_nil, List.getD_cons_zero, List.getD_cons_succ, true_or, or_true, true_and, and_true, Bool.and_true, Bool.true_and, Bool.or_false, Bool.false_or, Bool.not_false, Bool.not_true, Bool.or_true, Bool.true_or, decide_true, decide_false, wFor, wRng1, wRng2, wLc, wSeqI, items, wEnumX, wCallO, wNever, noOwn, List.all_cons, List.all_nil, wipeS, Bool.and_self, decide_eq_true_eq, atI0a, atI0b, atI0c, atI1b, atI1c, atI2c, wZipX, seqP, wRaise, wIsE, wVal, wMk, wPopAt, wPop, wAug, wTr, dTr, dLtX, dDivmod, wPick, pick, List.filterMap_cons, List.filterMap_nil]
      exact hN _ ⟨_, hp, rfl⟩
  obtain ⟨s', hp, rfl⟩ := hρ
  obtain ⟨o, rfl⟩ := hp.own
  refine seq_by (fun ρ => ∃ s' c, Pot (m + 2) s' ∧ c ≤ sts.length ∧ ρ = [s', .dat (.lst (sts.map lsI)), .dat (.lst ((sts.map lineOf).map .str)), .dat (.int (c : Nat)), .emp]) (fun N hN => ?_) (fun ρ hρ => ?_)
  · simp only [e_take, hln, wSeq, wNext, wIfS, wSetF, wSet, into, wSetIx, wRet, wRetN, wDrop, wB, wBin, wUn, wCB, wCons, wNil, wVar, wC, wIf, wAnd, wOr, DL.wNot, wAndV, wOrV, wNotV, wTup, wLst, wSl, wNoPart, wPart, wChain, wUnp, wgTup, wgCons, wgNil, wName, wIsi, wListRg, wRg1, wRg2, wTupRg, wPuts, puts, Rz.sd, wConsH, wAppend, wExtend, ownL, dI, dI0, dIx, dInt, dAbs, dLen, dMax2, dMin2, dSum, dSumX, dAll, dAny, dList, dTuple, dAdd, dNeg, dIsN, dNotN, PD.isN, dSl, look, looks, ok, Rz.pd, SD.pd, OD.pd, Rz.cold, Rz.cool, warm, pdsOf, frz, frzAll, leave, argOf, onceB, newBor, isBor, ty_non, ty_bl, ty_int, ty_str, ty_lst, ty_scr, ty_tup, ty_dct, isa, String.reduceBEq, beq_self_eq_true, Bool.false_and, Bool.and_false, Bool.not_true, Bool.or_self, wYes, wCall, backS_0, backS_1, backS_2, backS_3, backS_4, backS_o0, backS_o1, backS_o2, backS_o3, dEq_int, dEq_str, dNeX_int, dNeX_str, List.length_cons, List.length_nil, List.cons_append, List.nil_append, List.replicate, Nat.reduceAdd, Nat.reduceSub, List.getElem?_cons_zero, List.getElem?_cons_succ, Option.bind_some, List.set_cons_zero, List.set_cons_succ, List.map_cons, List.map_nil, List.any_cons, List.any_nil, List.getD_cons_zero, List.getD_cons_succ, true_or, or_true, true_and, and_true, Bool.and_true, Bool.true_and, Bool.or_false, Bool.false_or, Bool.not_false, Bool.not_true, Bool.or_true, Bool.true_or, decide_true, decide_false, wFor, wRng1, wRng2, wLc, wSeqI, items, wEnumX, wCallO, wNever, noOwn, List.all_cons, List.all_nil, wipeS, Bool.and_self, decide_eq_true_eq, atI0a, atI0b, atI0c, atI1b, atI1c, atI2c, wZipX, seqP, wRaise, wIsE, wVal, wMk, wPopAt, wPop, wAug, wTr, dTr, dLtX, dDivmod, wPick, pick, List.filterMap_cons, List.filterMap_nil]
    refine drw.tk (n := (sts.length : Int) + 1) hp (by omega) (by omega) (sm_of (by omega)) fun c s2 c0 c1 hp => ?_
    obtain ⟨o2, rfl⟩ := hp.own
    simp only [backS_h1, wSeq, wNext, wIfS, wSetF, wSet, into, wSetIx, wRet, wRetN, wDrop, wB, wBin, wUn, wCB, wCons, wNil, wVar, wC, wIf, wAnd, wOr, DL.wNot, wAndV, wOrV, wNotV, wTup, wLst, wSl, wNoPart, wPart, wChain, wUnp, wgTup, wgCons, wgNil, wName, wIsi, wListRg, wRg1, wRg2, wTupRg, wPuts, puts, Rz.sd, wConsH, wAppend, wExtend, ownL, dI, dI0, dIx, dInt, dAbs, dLen, dMax2, dMin2, dSum, dSumX, dAll, dAny, dList, dTuple, dAdd, dNeg, dIsN, dNotN, PD.isN, dSl, look, looks, ok, Rz.pd, SD.pd, OD.pd, Rz.cold, Rz.cool, warm, pdsOf, frz, frzAll, leave, argOf, onceB, newBor, isBor, ty_non, ty_bl, ty_int, ty_str, ty_lst, ty_scr, ty_tup, ty_dct, isa, String.reduceBEq, beq_self_eq_true, Bool.false_and, Bool.and_false, Bool.not_true, Bool.or_self, wYes, wCall, backS_0, backS_1, backS_2, backS_3, backS_4, backS_o0, backS_o1, backS_o2, backS_o3, dEq_int, dEq_str, dNeX_int, dNeX_str, List.length_cons, List.length_nil, List.cons_append, List.nil_append, List.replicate, Nat.reduceAdd, Nat.reduceSub, List.getElem?_cons_zero, List.getElem?_cons_succ, Option.bind_some, List.set_cons_zero, List.set_cons_succ, List.map_cons, List.map_nil, List.any_cons, List.any_nil, List.getD_cons_zero, List.getD_cons_succ, true_or, or_true, true_and, and_true, Bool.and_true, Bool.true_and, Bool.or_false, Bool.false_or, Bool.not_false, Bool.not_true, Bool.or_true, Bool.true_or, decide_true, decide_false, wFor, wRng1, wRng2, wLc, wSeqI, items, wEnumX, wCallO, wNever, noOwn, List.all_cons, List.all_nil, wipeS, Bool.and_self, decide_eq_true_eq, atI0a, atI0b, atI0c, atI1b, atI1c, atI2c, wZipX, seqP, wRaise, wIsE, wVal, wMk, wPopAt, wPop, wAug, wTr, dTr, dLtX, dDivmod, wPick, pick, List.filterMap_cons, List.filterMap_nil]
    have e : c = ((c.toNat : Nat) : Int) := by omega
    rw [e]
    exact hN _ ⟨_, c.toNat, hp.mono (by omega), by omega, rfl⟩
  obtain ⟨s', c, hp, hc, rfl⟩ := hρ
  obtain ⟨o, rfl⟩ := hp.own
  refine seq_by (fun ρ => c ≠ 6 ∧ ρ = [.own o, .dat (.lst (sts.map lsI)), .dat (.lst ((sts.map lineOf).map .str)), .dat (.int (c : Nat)), .emp]) (fun N hN => ?_) (fun ρ hρ => ?_)
  · refine ifs_of (decide ((c : Int) = 6)) (fun Q hQ => by simp only [dEq_int, wSeq, wNext, wIfS, wSetF, wSet, into, wSetIx, wRet, wRetN, wDrop, wB, wBin, wUn, wCB, wCons, wNil, wVar, wC, wIf, wAnd, wOr, DL.wNot, wAndV, wOrV, wNotV, wTup, wLst, wSl, wNoPart, wPart, wChain, wUnp, wgTup, wgCons, wgNil, wName, wIsi, wListRg, wRg1, wRg2, wTupRg, wPuts, puts, Rz.sd, wConsH, wAppend, wExtend, ownL, dI, dI0, dIx, dInt, dAbs, dLen, dMax2, dMin2, dSum, dSumX, dAll, dAny, dList, dTuple, dAdd, dNeg, dIsN, dNotN, PD.isN, dSl, look, looks, ok, Rz.pd, SD.pd, OD.pd, Rz.cold, Rz.cool, warm, pdsOf, frz, frzAll, leave, argOf, onceB, newBor, isBor, ty_non, ty_bl, ty_int, ty_str, ty_lst, ty_scr, ty_tup, ty_dct, isa, String.reduceBEq, beq_self_eq_true, Bool.false_and, Bool.and_false, Bool.not_true, Bool.or_self, wYes, wCall, backS_0, backS_1, backS_2, backS_3, backS_4, backS_o0, backS_o1, backS_o2, backS_o3, dEq_int, dEq_str, dNeX_int, dNeX_str, List.length_cons, List.length_nil, List.cons_append, List.nil_append, List.replicate, Nat.reduceAdd, Nat.reduceSub, List.getElem?_cons_zero, List.getElem?_cons_succ, Option.bind_some, List.set_cons_zero, List.set_cons_succ, List.map_cons, List.map_nil, List.any_cons, List.any_nil, List.getD_cons_zero, List.getD_cons_succ, true_or, or_true, true_and, and_true, Bool.and_true, Bool.true_and, Bool.or_false, Bool.false_or, Bool.not_false, Bool.not_true, Bool.or_true, Bool.true_or, decide_true, decide_false, wFor, wRng1, wRng2, wLc, wSeqI, items, wEnumX, wCallO, wNever, noOwn, List.all_cons, List.all_nil, wipeS, Bool.and_self, decide_eq_true_eq, atI0a, atI0b, atI0c, atI1b, atI1c, atI2c, wZipX, seqP, wRaise, wIsE, wVal, wMk, wPopAt, wPop, wAug, wTr, dTr, dLtX, dDivmod, wPick, pick, List.filterMap_cons, List.filterMap_nil]; exact hQ) (fun hb => ?_) (fun hb => ?_)
    · have hb := of_decide_eq_true hb
      simp only [z1, z2, wSeq, wNext, wIfS, wSetF, wSet, into, wSetIx, wRet, wRetN, wDrop, wB, wBin, wUn, wCB, wCons, wNil, wVar, wC, wIf, wAnd, wOr, DL.wNot, wAndV, wOrV, wNotV, wTup, wLst, wSl, wNoPart, wPart, wChain, wUnp, wgTup, wgCons, wgNil, wName, wIsi, wListRg, wRg1, wRg2, wTupRg, wPuts, puts, Rz.sd, wConsH, wAppend, wExtend, ownL, dI, dI0, dIx, dInt, dAbs, dLen, dMax2, dMin2, dSum, dSumX, dAll, dAny, dList, dTuple, dAdd, dNeg, dIsN, dNotN, PD.isN, dSl, look, looks, ok, Rz.pd, SD.pd, OD.pd, Rz.cold, Rz.cool, warm, pdsOf, frz, frzAll, leave, argOf, onceB, newBor, isBor, ty_non, ty_bl, ty_int, ty_str, ty_lst, ty_scr, ty_tup, ty_dct, isa, String.reduceBEq, beq_self_eq_true, Bool.false_and, Bool.and_false, Bool.not_true, Bool.or_self, wYes, wCall, backS_0, backS_1, backS_2, backS_3, backS_4, backS_o0, backS_o1, backS_o2, backS_o3, dEq_int, dEq_str, dNeX_int, dNeX_str, List.length_cons, List.length_nil, List.cons_append, List.nil_append, List.replicate, Nat.reduceAdd, Nat.reduceSub, List.getElem?_cons_zero, List.getElem?_cons_succ, Option.bind_some, List.set_cons_zero, List.set_cons_succ, List.map_cons, List.map_nil, List.any_cons, List.any_nil, List.getD_cons_zero, List.getD_cons_succ, true_or, or_true, true_and, and_true, Bool.and_true, Bool.true_and, Bool.or_false, Bool.false_or, Bool.not_false, Bool.not_true, Bool.or_true, Bool.true_or, decide_true, decide_false, wFor, wRng1, wRng2, wLc, wSeqI, items, wEnumX, wCallO, wNever, noOwn, List.all_cons, List.all_nil, wipeS, Bool.and_self, decide_eq_true_eq, atI0a, atI0b, atI0c, atI1b, atI1c, atI2c, wZipX, seqP, wRaise, wIsE, wVal, wMk, wPopAt, wPop, wAug, wTr, dTr, dLtX, dDivmod, wPick, pick, List.filterMap_cons, List.filterMap_nil]
      have e := h _ 6 _ (bad_b hs (by omega)) (hp.mono (by omega))
      simp only [List.map_append, List.map_cons, List.map_nil] at e
      exact ⟨sz (by rw [List.length_map, List.length_map]; omega), .inr ⟨_, rfl⟩, e⟩
    · exact hN _ ⟨by have := of_decide_eq_false hb; omega, rfl⟩
  obtain ⟨hc6, rfl⟩ := hρ
  simp only [z1, z2, e_of, cut_to', wSeq, wNext, wIfS, wSetF, wSet, into, wSetIx, wRet, wRetN, wDrop, wB, wBin, wUn, wCB, wCons, wNil, wVar, wC, wIf, wAnd, wOr, DL.wNot, wAndV, wOrV, wNotV, wTup, wLst, wSl, wNoPart, wPart, wChain, wUnp, wgTup, wgCons, wgNil, wName, wIsi, wListRg, wRg1, wRg2, wTupRg, wPuts, puts, Rz.sd, wConsH, wAppend, wExtend, ownL, dI, dI0, dIx, dInt, dAbs, dLen, dMax2, dMin2, dSum, dSumX, dAll, dAny, dList, dTuple, dAdd, dNeg, dIsN, dNotN, PD.isN, dSl, look, looks, ok, Rz.pd, SD.pd, OD.pd, Rz.cold, Rz.cool, warm, pdsOf, frz, frzAll, leave, argOf, onceB, newBor, isBor, ty_non, ty_bl, ty_int, ty_str, ty_lst, ty_scr, ty_tup, ty_dct, isa, String.reduceBEq, beq_self_eq_true, Bool.false_and, Bool.and_false, Bool.not_true, Bool.or_self, wYes, wCall, backS_0, backS_1, backS_2, backS_3, backS_4, backS_o0, backS_o1, backS_o2, backS_o3, dEq_int, dEq_str, dNeX_int, dNeX_str, List.length_cons, List.length_nil, List.cons_append, List.nil_append, List.replicate, Nat.reduceAdd, Nat.reduceSub, List.getElem?_cons_zero, List.getElem?_cons_succ, Option.bind_some, List.set_cons_zero, List.set_cons_succ, List.map_cons, List.map_nil, List.any_cons, List.any_nil, List.getD_cons_zero, List.getD_cons_succ, true_or, or_true, true_and, and_true, Bool.and_true, Bool.true_and, Bool.or_false, Bool.false_or, Bool.not_false, Bool.not_true, Bool.or_true, Bool.true_or, decide_true, decide_false, wFor, wRng1, wRng2, wLc, wSeqI, items, wEnumX, wCallO, wNever, noOwn, List.all_cons, List.all_nil, wipeS, Bool.and_self, decide_eq_true_eq, atI0a, atI0b, atI0c, atI1b, atI1c, atI2c, wZipX, seqP, wRaise, wIsE, wVal, wMk, wPopAt, wPop, wAug, wTr, dTr, dLtX, dDivmod, wPick, pick, List.filterMap_cons, List.filterMap_nil]
  refine ⟨.inr ⟨_, rfl⟩, badRows_ok ?_⟩
  simp only [wSeq, wNext, wIfS, wSetF, wSet, into, wSetIx, wRet, wRetN, wDrop, wB, wBin, wUn, wCB, wCons, wNil, wVar, wC, wIf, wAnd, wOr, DL.wNot, wAndV, wOrV, wNotV, wTup, wLst, wSl, wNoPart, wPart, wChain, wUnp, wgTup, wgCons, wgNil, wName, wIsi, wListRg, wRg1, wRg2, wTupRg, wPuts, puts, Rz.sd, wConsH, wAppend, wExtend, ownL, dI, dI0, dIx, dInt, dAbs, dLen, dMax2, dMin2, dSum, dSumX, dAll, dAny, dList, dTuple, dAdd, dNeg, dIsN, dNotN, PD.isN, dSl, look, looks, ok, Rz.pd, SD.pd, OD.pd, Rz.cold, Rz.cool, warm, pdsOf, frz, frzAll, leave, argOf, onceB, newBor, isBor, ty_non, ty_bl, ty_int, ty_str, ty_lst, ty_scr, ty_tup, ty_dct, isa, String.reduceBEq, beq_self_eq_true, Bool.false_and, Bool.and_false, Bool.not_true, Bool.or_self, wYes, wCall, backS_0, backS_1, backS_2, backS_3, backS_4, backS_o0, backS_o1, backS_o2, backS_o3, dEq_int, dEq_str, dNeX_int, dNeX_str, List.length_cons, List.length_nil, List.cons_append, List.nil_append, List.replicate, Nat.reduceAdd, Nat.reduceSub, List.getElem?_cons_zero, List.getElem?_cons_succ, Option.bind_some, List.set_cons_zero, List.set_cons_succ, List.map_cons, List.map_nil, List.any_cons, List.any_nil, List.getD_cons_zero, List.getD_cons_succ, true_or, or_true, true_and, and_true, Bool.and_true, Bool.true_and, Bool.or_false, Bool.false_or, Bool.not_false, Bool.not_true, Bool.or_true, Bool.true_or, decide_true, decide_false, wFor, wRng1, wRng2, wLc, wSeqI, items, wEnumX, wCallO, wNever, noOwn, List.all_cons, List.all_nil, wipeS, Bool.and_self, decide_eq_true_eq, atI0a, atI0b, atI0c, atI1b, atI1c, atI2c, wZipX, seqP, wRaise, wIsE, wVal, wMk, wPopAt, wPop, wAug, wTr, dTr, dLtX, dDivmod, wPick, pick, List.filterMap_cons, List.filterMap_nil]
  refine ⟨.inr ⟨_, rfl⟩, ?_⟩
  refine drw.of (xs := badRows.map .str) hp (by omega) (by decide) (by decide) fun x s2 hx hp => ?_
  obtain ⟨l, hl, rfl⟩ := List.mem_map.mp hx
  obtain ⟨o2, rfl⟩ := hp.own
  simp only [backS_h1, e_take, wSeq, wNext, wIfS, wSetF, wSet, into, wSetIx, wRet, wRetN, wDrop, wB, wBin, wUn, wCB, wCons, wNil, wVar, wC, wIf, wAnd, wOr, DL.wNot, wAndV, wOrV, wNotV, wTup, wLst, wSl, wNoPart, wPart, wChain, wUnp, wgTup, wgCons, wgNil, wName, wIsi, wListRg, wRg1, wRg2, wTupRg, wPuts, puts, Rz.sd, wConsH, wAppend, wExtend, ownL, dI, dI0, dIx, dInt, dAbs, dLen, dMax2, dMin2, dSum, dSumX, dAll, dAny, dList, dTuple, dAdd, dNeg, dIsN, dNotN, PD.isN, dSl, look, looks, ok, Rz.pd, SD.pd, OD.pd, Rz.cold, Rz.cool, warm, pdsOf, frz, frzAll, leave, argOf, onceB, newBor, isBor, ty_non, ty_bl, ty_int, ty_str, ty_lst, ty_scr, ty_tup, ty_dct, isa, String.reduceBEq, beq_self_eq_true, Bool.false_and, Bool.and_false, Bool.not_true, Bool.or_self, wYes, wCall, backS_0, backS_1, backS_2, backS_3, backS_4, backS_o0, backS_o1, backS_o2, backS_o3, dEq_int, dEq_str, dNeX_int, dNeX_str, List.length_cons, List.length_nil, List.cons_append, List.nil_append, List.replicate, Nat.reduceAdd, Nat.reduceSub, List.getElem?_cons_zero, List.getElem?_cons_succ, Option.bind_some, List.set_cons_zero, List.set_cons_succ, List.map_cons, List.map_nil, List.any_cons, List.any_nil, List.getD_cons_zero, List.getD_cons_succ, true_or, or_true, true_and, and_true, Bool.and_true, Bool.true_and, Bool.or_false, Bool.false_or, Bool.not_false, Bool.not_true, Bool.or_true, Bool.true_or, decide_true, decide_false, wFor, wRng1, wRng2, wLc, wSeqI, items, wEnumX, wCallO, wNever, noOwn, List.all_cons, List.all_nil, wipeS, Bool.and_self, decide_eq_true_eq, atI0a, atI0b, atI0c, atI1b, atI1c, atI2c, wZipX, seqP, wRaise, wIsE, wVal, wMk, wPopAt, wPop, wAug, wTr, dTr, dLtX, dDivmod, wPick, pick, List.filterMap_cons, List.filterMap_nil]
  refine ⟨z1, sz (by rw [List.length_take, List.length_map, List.length_map]; omega), .inr ⟨_, rfl⟩, ?_⟩
  refine drw.tk (n := 2) hp (by omega) (by omega) (sm_of (by decide)) fun t s3 t0 t1 hp => ?_
  obtain ⟨o3, rfl⟩ := hp.own
  have et : (c : Int) + t = ((c + t.toNat : Nat) : Int) := by omega
  simp only [et, cut_from', wSeq, wNext, wIfS, wSetF, wSet, into, wSetIx, wRet, wRetN, wDrop, wB, wBin, wUn, wCB, wCons, wNil, wVar, wC, wIf, wAnd, wOr, DL.wNot, wAndV, wOrV, wNotV, wTup, wLst, wSl, wNoPart, wPart, wChain, wUnp, wgTup, wgCons, wgNil, wName, wIsi, wListRg, wRg1, wRg2, wTupRg, wPuts, puts, Rz.sd, wConsH, wAppend, wExtend, ownL, dI, dI0, dIx, dInt, dAbs, dLen, dMax2, dMin2, dSum, dSumX, dAll, dAny, dList, dTuple, dAdd, dNeg, dIsN, dNotN, PD.isN, dSl, look, looks, ok, Rz.pd, SD.pd, OD.pd, Rz.cold, Rz.cool, warm, pdsOf, frz, frzAll, leave, argOf, onceB, newBor, isBor, ty_non, ty_bl, ty_int, ty_str, ty_lst, ty_scr, ty_tup, ty_dct, isa, String.reduceBEq, beq_self_eq_true, Bool.false_and, Bool.and_false, Bool.not_true, Bool.or_self, wYes, wCall, backS_0, backS_1, backS_2, backS_3, backS_4, backS_o0, backS_o1, backS_o2, backS_o3, dEq_int, dEq_str, dNeX_int, dNeX_str, List.length_cons, List.length_nil, List.cons_append, List.nil_append, List.replicate, Nat.reduceAdd, Nat.reduceSub, List.getElem?_cons_zero, List.getElem?_cons_succ, Option.bind_some, List.set_cons_zero, List.set_cons_succ, List.map_cons, List.map_nil, List.any_cons, List.any_nil, List.getD_cons_zero, List.getD_cons_succ, true_or, or_true, true_and, and_true, Bool.and_true, Bool.true_and, Bool.or_false, Bool.false_or, Bool.not_false, Bool.not_true, Bool.or_true, Bool.true_or, decide_true, decide_false, wFor, wRng1, wRng2, wLc, wSeqI, items, wEnumX, wCallO, wNever, noOwn, List.all_cons, List.all_nil, wipeS, Bool.and_self, decide_eq_true_eq, atI0a, atI0b, atI0c, atI1b, atI1c, atI2c, wZipX, seqP, wRaise, wIsE, wVal, wMk, wPopAt, wPop, wAug, wTr, dTr, dLtX, dDivmod, wPick, pick, List.filterMap_cons, List.filterMap_nil]
  have e := h _ c _ (bad_c (t := t.toNat) hs hc hc6 hl) (hp.mono (by omega))
  simp only [List.map_append, List.map_cons, List.map_nil, List.map_take, List.map_drop] at e
  exact ⟨sz (by simp only [List.length_append, List.length_take, List.length_drop, List.length_map, List.length_cons, List.length_nil]; omega), .inr ⟨_, rfl⟩, e⟩
end Lk

set_option Elab.async false
set_option linter.all false
set_option maxRecDepth 100000
set_option maxHeartbeats 4000000
set_option exponentiation.threshold 3000
namespace DL
open PySem L2
/-- a right that is asked for several times with one pot: it draws M times at most -/
def RightMore (M : Int) (F : Fd) : Prop := ∀ (m : Int) (s : SD) (Q : Rz → Sl → Prop), 0 ≤ m → m ≤ 1000000 → Pot m s → (∀ s', Pot (m + M) s' → Q (.dat (.bl true)) [s']) → F [s] Q noX
def wLawB (n L : Int) (Fp Fr : Fd) : Ws := (wSeq (wFor (wSeqI (wCall 2 FCells noX (wCons (wVar 0) (wCons (wC (.int n)) wNil)))) (wName 1) (wSeq (wSet 2 (wCall 2 Fp noX (wCons (wVar 0) (wCons (wVar 1) wNil))))
  (wIfS (DL.wNot (wB (wCB dAll (wCons (wLc [3] (wRng1 (wCons (wC (.int L)) wNil)) (wName 3) wYes (wCall 1 Fr noX (wCons (wVar 2) wNil))) wNil)))) (wRet (wC (.bl false))) wNext)))
  (wRet (wC (.bl true))))
theorem lawB_ok {M1 C1 M2 M3 C2 n L M : Int} {Fr : Fd} {ns : List Int} (hP : DL.PC M1 C1 M2 M3 C2) (hn : 1 ≤ n ∧ n ≤ 100) (hL : 0 ≤ L ∧ L ≤ 100) (hM : 0 ≤ M ∧ M ≤ 10000) (hR : RightMore M Fr) : mkF (pin [0]) 4 (fun _ => wLawB n L (FPot M1 C1 M2 M3 C2) Fr) [.dat (.scr ns)] (fun r _ => r = .dat (.bl true)) noX := by
  unfold mkF
  refine ⟨pinned1, ?_⟩
  unfold wLawB
  refine seq_by (fun ρ' => ∃ s1 s2, ρ' = [.dat (.scr ns), s1, s2, .emp]) (fun N hN => ?_) (fun ρ hρ => ?_)
  · simp only [wFor, wSeqI, wCall, wCons, wNil, wVar, wC, Rz.cold, Rz.cool, warm, true_or, true_and, List.length_cons, List.length_nil, Nat.reduceAdd, Nat.reduceSub, List.replicate, List.cons_append, List.nil_append, List.getElem?_cons_zero, List.getElem?_cons_succ, onceB, newBor, Bool.and_self, List.map_cons, List.map_nil, argOf]
    refine cells_ok hn fun j h1 h3 => ?_
    simp only [wSeq, wNext, wIfS, wSetF, wSet, into, wSetIx, wRet, wRetN, wDrop, wB, wBin, wUn, wCB, wCons, wNil, wVar, wC, wIf, wAnd, wOr, DL.wNot, wAndV, wOrV, wNotV, wTup, wLst, wSl, wNoPart, wPart, wChain, wUnp, wgTup, wgCons, wgNil, wName, wIsi, wListRg, wRg1, wRg2, wTupRg, wPuts, puts, Rz.sd, wConsH, wAppend, wExtend, ownL, dI, dI0, dIx, dInt, dAbs, dLen, dMax2, dMin2, dSum, dAll, dAny, dList, dTuple, dAdd, dNeg, dIsN, dNotN, PD.isN, dSl, look, looks, ok, Rz.pd, SD.pd, OD.pd, Rz.cold, Rz.cool, warm, pdsOf, frz, frzAll, leave, argOf, onceB, newBor, isBor, ty_non, ty_bl, ty_int, ty_str, ty_lst, ty_scr, ty_tup, ty_dct, isa, String.reduceBEq, beq_self_eq_true, Bool.false_and, Bool.and_false, Bool.not_true, Bool.or_self, wYes, wCall, backS_0, backS_1, backS_2, backS_3, backS_4, backS_o0, backS_o1, backS_o2, backS_o3, dEq_int, dEq_str, dNeX_int, dNeX_str, List.length_cons, List.length_nil, List.cons_append, List.nil_append, List.replicate, Nat.reduceAdd, Nat.reduceSub, List.getElem?_cons_zero, List.getElem?_cons_succ, Option.bind_some, List.set_cons_zero, List.set_cons_succ, List.map_cons, List.map_nil, List.any_cons, List.any_nil, List.getD_cons_zero, List.getD_cons_succ, true_or, or_true, true_and, and_true, Bool.and_true, Bool.true_and, Bool.or_false, Bool.false_or, Bool.not_false, Bool.not_true, Bool.or_true, Bool.true_or, decide_true, decide_false, wFor, wRng1, wRng2, wLc, wSeqI, items, wEnumX, wCallO, wNever, noOwn, List.all_cons, List.all_nil, wipeS, Bool.and_self, decide_eq_true_eq, atI0a, atI0b, atI0c, atI1b, atI1c, atI2c, wZipX, seqP]
    refine ⟨.inr ⟨_, rfl⟩, ?_⟩
    refine forL_upto (fun k ρ => ∃ s1 s2, ρ = [.dat (.scr ns), s1, s2, .emp]) _ 0 _ ⟨_, _, rfl⟩ (fun k d ρ N2 hj hI hN2 => ?_) (fun ρ hI => ?_)
    · obtain ⟨s1, s2, rfl⟩ := hI
      obtain ⟨rfl, hk⟩ := rg_at hj
      show wSeq _ _ _ [.dat (.scr ns), .dat (.int (k : Int)), s2, .emp]
      refine seq_by (fun ρ' => ∃ s, Pot 0 s ∧ ρ' = [.dat (.scr ns), .dat (.int (k : Int)), s, .emp]) (fun N hN => ?_) (fun ρ hρ => ?_)
      · simp only [wSeq, wNext, wIfS, wSetF, wSet, into, wSetIx, wRet, wRetN, wDrop, wB, wBin, wUn, wCB, wCons, wNil, wVar, wC, wIf, wAnd, wOr, DL.wNot, wAndV, wOrV, wNotV, wTup, wLst, wSl, wNoPart, wPart, wChain, wUnp, wgTup, wgCons, wgNil, wName, wIsi, wListRg, wRg1, wRg2, wTupRg, wPuts, puts, Rz.sd, wConsH, wAppend, wExtend, ownL, dI, dI0, dIx, dInt, dAbs, dLen, dMax2, dMin2, dSum, dAll, dAny, dList, dTuple, dAdd, dNeg, dIsN, dNotN, PD.isN, dSl, look, looks, ok, Rz.pd, SD.pd, OD.pd, Rz.cold, Rz.cool, warm, pdsOf, frz, frzAll, leave, argOf, onceB, newBor, isBor, ty_non, ty_bl, ty_int, ty_str, ty_lst, ty_scr, ty_tup, ty_dct, isa, String.reduceBEq, beq_self_eq_true, Bool.false_and, Bool.and_false, Bool.not_true, Bool.or_self, wYes, wCall, backS_0, backS_1, backS_2, backS_3, backS_4, backS_o0, backS_o1, backS_o2, backS_o3, dEq_int, dEq_str, dNeX_int, dNeX_str, List.length_cons, List.length_nil, List.cons_append, List.nil_append, List.replicate, Nat.reduceAdd, Nat.reduceSub, List.getElem?_cons_zero, List.getElem?_cons_succ, Option.bind_some, List.set_cons_zero, List.set_cons_succ, List.map_cons, List.map_nil, List.any_cons, List.any_nil, List.getD_cons_zero, List.getD_cons_succ, true_or, or_true, true_and, and_true, Bool.and_true, Bool.true_and, Bool.or_false, Bool.false_or, Bool.not_false, Bool.not_true, Bool.or_true, Bool.true_or, decide_true, decide_false, wFor, wRng1, wRng2, wLc, wSeqI, items, wEnumX, wCallO, wNever, noOwn, List.all_cons, List.all_nil, wipeS, Bool.and_self, decide_eq_true_eq, atI0a, atI0b, atI0c, atI1b, atI1c, atI2c, wZipX, seqP]
        refine pot_ok hP (by omega) (by omega) fun sp o as eo hp => ?_
        subst eo
        simp only [wSeq, wNext, wIfS, wSetF, wSet, into, wSetIx, wRet, wRetN, wDrop, wB, wBin, wUn, wCB, wCons, wNil, wVar, wC, wIf, wAnd, wOr, DL.wNot, wAndV, wOrV, wNotV, wTup, wLst, wSl, wNoPart, wPart, wChain, wUnp, wgTup, wgCons, wgNil, wName, wIsi, wListRg, wRg1, wRg2, wTupRg, wPuts, puts, Rz.sd, wConsH, wAppend, wExtend, ownL, dI, dI0, dIx, dInt, dAbs, dLen, dMax2, dMin2, dSum, dAll, dAny, dList, dTuple, dAdd, dNeg, dIsN, dNotN, PD.isN, dSl, look, looks, ok, Rz.pd, SD.pd, OD.pd, Rz.cold, Rz.cool, warm, pdsOf, frz, frzAll, leave, argOf, onceB, newBor, isBor, ty_non, ty_bl, ty_int, ty_str, ty_lst, ty_scr, ty_tup, ty_dct, isa, String.reduceBEq, beq_self_eq_true, Bool.false_and, Bool.and_false, Bool.not_true, Bool.or_self, wYes, wCall, backS_0, backS_1, backS_2, backS_3, backS_4, backS_o0, backS_o1, backS_o2, backS_o3, dEq_int, dEq_str, dNeX_int, dNeX_str, List.length_cons, List.length_nil, List.cons_append, List.nil_append, List.replicate, Nat.reduceAdd, Nat.reduceSub, List.getElem?_cons_zero, List.getElem?_cons_succ, Option.bind_some, List.set_cons_zero, List.set_cons_succ, List.map_cons, List.map_nil, List.any_cons, List.any_nil, List.getD_cons_zero, List.getD_cons_succ, true_or, or_true, true_and, and_true, Bool.and_true, Bool.true_and, Bool.or_false, Bool.false_or, Bool.not_false, Bool.not_true, Bool.or_true, Bool.true_or, decide_true, decide_false, wFor, wRng1, wRng2, wLc, wSeqI, items, wEnumX, wCallO, wNever, noOwn, List.all_cons, List.all_nil, wipeS, Bool.and_self, decide_eq_true_eq, atI0a, atI0b, atI0c, atI1b, atI1c, atI2c, wZipX, seqP]
        exact hN _ ⟨_, hp, rfl⟩
      · obtain ⟨s, hp, rfl⟩ := hρ
        have hLr : -(2 ^ 62) ≤ L ∧ L < 2 ^ 62 := ⟨by omega, by omega⟩
        obtain ⟨o, rfl⟩ := hp.own
        simp only [wSeq, wNext, wIfS, wSetF, wSet, into, wSetIx, wRet, wRetN, wDrop, wB, wBin, wUn, wCB, wCons, wNil, wVar, wC, wIf, wAnd, wOr, DL.wNot, wAndV, wOrV, wNotV, wTup, wLst, wSl, wNoPart, wPart, wChain, wUnp, wgTup, wgCons, wgNil, wName, wIsi, wListRg, wRg1, wRg2, wTupRg, wPuts, puts, Rz.sd, wConsH, wAppend, wExtend, ownL, dI, dI0, dIx, dInt, dAbs, dLen, dMax2, dMin2, dSum, dAll, dAny, dList, dTuple, dAdd, dNeg, dIsN, dNotN, PD.isN, dSl, look, looks, ok, Rz.pd, SD.pd, OD.pd, Rz.cold, Rz.cool, warm, pdsOf, frz, frzAll, leave, argOf, onceB, newBor, isBor, ty_non, ty_bl, ty_int, ty_str, ty_lst, ty_scr, ty_tup, ty_dct, isa, String.reduceBEq, beq_self_eq_true, Bool.false_and, Bool.and_false, Bool.not_true, Bool.or_self, wYes, wCall, backS_0, backS_1, backS_2, backS_3, backS_4, backS_o0, backS_o1, backS_o2, backS_o3, dEq_int, dEq_str, dNeX_int, dNeX_str, List.length_cons, List.length_nil, List.cons_append, List.nil_append, List.replicate, Nat.reduceAdd, Nat.reduceSub, List.getElem?_cons_zero, List.getElem?_cons_succ, Option.bind_some, List.set_cons_zero, List.set_cons_succ, List.map_cons, List.map_nil, List.any_cons, List.any_nil, List.getD_cons_zero, List.getD_cons_succ, true_or, or_true, true_and, and_true, Bool.and_true, Bool.true_and, Bool.or_false, Bool.false_or, Bool.not_false, Bool.not_true, Bool.or_true, Bool.true_or, decide_true, decide_false, wFor, wRng1, wRng2, wLc, wSeqI, items, wEnumX, wCallO, wNever, noOwn, List.all_cons, List.all_nil, wipeS, Bool.and_self, decide_eq_true_eq, atI0a, atI0b, atI0c, atI1b, atI1c, atI2c, wZipX, seqP]
        refine ⟨hLr, ?_⟩
        refine compL_upto (fun t acc ρ' => ∃ s, Pot (M * t) s ∧ acc = List.replicate t (.bl true) ∧ ρ' = [.dat (.scr ns), .dat (.int (k : Int)), s, .emp]) _ 0 _ _ ⟨_, hp.mono (by simp), rfl, rfl⟩ (fun t e acc ρ N3 ht hI hN3 => ?_) (fun acc ρ hI => ?_)
        · obtain ⟨s, hp, rfl, rfl⟩ := hI
          obtain ⟨rfl, htl⟩ := rg_at ht
          obtain ⟨o, rfl⟩ := hp.own
          have hb : M * ((0 + t : Nat) : Int) ≤ 10000 * 100 := Int.mul_le_mul hM.2 (by omega) (by omega) (by decide)
          have hb0 : 0 ≤ M * ((0 + t : Nat) : Int) := Int.mul_nonneg hM.1 (by omega)
          simp only [wSeq, wNext, wIfS, wSetF, wSet, into, wSetIx, wRet, wRetN, wDrop, wB, wBin, wUn, wCB, wCons, wNil, wVar, wC, wIf, wAnd, wOr, DL.wNot, wAndV, wOrV, wNotV, wTup, wLst, wSl, wNoPart, wPart, wChain, wUnp, wgTup, wgCons, wgNil, wName, wIsi, wListRg, wRg1, wRg2, wTupRg, wPuts, puts, Rz.sd, wConsH, wAppend, wExtend, ownL, dI, dI0, dIx, dInt, dAbs, dLen, dMax2, dMin2, dSum, dAll, dAny, dList, dTuple, dAdd, dNeg, dIsN, dNotN, PD.isN, dSl, look, looks, ok, Rz.pd, SD.pd, OD.pd, Rz.cold, Rz.cool, warm, pdsOf, frz, frzAll, leave, argOf, onceB, newBor, isBor, ty_non, ty_bl, ty_int, ty_str, ty_lst, ty_scr, ty_tup, ty_dct, isa, String.reduceBEq, beq_self_eq_true, Bool.false_and, Bool.and_false, Bool.not_true, Bool.or_self, wYes, wCall, backS_0, backS_1, backS_2, backS_3, backS_4, backS_o0, backS_o1, backS_o2, backS_o3, dEq_int, dEq_str, dNeX_int, dNeX_str, List.length_cons, List.length_nil, List.cons_append, List.nil_append, List.replicate, Nat.reduceAdd, Nat.reduceSub, List.getElem?_cons_zero, List.getElem?_cons_succ, Option.bind_some, List.set_cons_zero, List.set_cons_succ, List.map_cons, List.map_nil, List.any_cons, List.any_nil, List.getD_cons_zero, List.getD_cons_succ, true_or, or_true, true_and, and_true, Bool.and_true, Bool.true_and, Bool.or_false, Bool.false_or, Bool.not_false, Bool.not_true, Bool.or_true, Bool.true_or, decide_true, decide_false, wFor, wRng1, wRng2, wLc, wSeqI, items, wEnumX, wCallO, wNever, noOwn, List.all_cons, List.all_nil, wipeS, Bool.and_self, decide_eq_true_eq, atI0a, atI0b, atI0c, atI1b, atI1c, atI2c, wZipX, seqP]
          refine hR _ _ _ hb0 (by omega) hp fun s' hp' => ?_
          rw [backS_o0 (o := o) rfl]
          simp only [wSeq, wNext, wIfS, wSetF, wSet, into, wSetIx, wRet, wRetN, wDrop, wB, wBin, wUn, wCB, wCons, wNil, wVar, wC, wIf, wAnd, wOr, DL.wNot, wAndV, wOrV, wNotV, wTup, wLst, wSl, wNoPart, wPart, wChain, wUnp, wgTup, wgCons, wgNil, wName, wIsi, wListRg, wRg1, wRg2, wTupRg, wPuts, puts, Rz.sd, wConsH, wAppend, wExtend, ownL, dI, dI0, dIx, dInt, dAbs, dLen, dMax2, dMin2, dSum, dAll, dAny, dList, dTuple, dAdd, dNeg, dIsN, dNotN, PD.isN, dSl, look, looks, ok, Rz.pd, SD.pd, OD.pd, Rz.cold, Rz.cool, warm, pdsOf, frz, frzAll, leave, argOf, onceB, newBor, isBor, ty_non, ty_bl, ty_int, ty_str, ty_lst, ty_scr, ty_tup, ty_dct, isa, String.reduceBEq, beq_self_eq_true, Bool.false_and, Bool.and_false, Bool.not_true, Bool.or_self, wYes, wCall, backS_0, backS_1, backS_2, backS_3, backS_4, backS_o0, backS_o1, backS_o2, backS_o3, dEq_int, dEq_str, dNeX_int, dNeX_str, List.length_cons, List.length_nil, List.cons_append, List.nil_append, List.replicate, Nat.reduceAdd, Nat.reduceSub, List.getElem?_cons_zero, List.getElem?_cons_succ, Option.bind_some, List.set_cons_zero, List.set_cons_succ, List.map_cons, List.map_nil, List.any_cons, List.any_nil, List.getD_cons_zero, List.getD_cons_succ, true_or, or_true, true_and, and_true, Bool.and_true, Bool.true_and, Bool.or_false, Bool.false_or, Bool.not_false, Bool.not_true, Bool.or_true, Bool.true_or, decide_true, decide_false, wFor, wRng1, wRng2, wLc, wSeqI, items, wEnumX, wCallO, wNever, noOwn, List.all_cons, List.all_nil, wipeS, Bool.and_self, decide_eq_true_eq, atI0a, atI0b, atI0c, atI1b, atI1c, atI2c, wZipX, seqP]
          refine ⟨by rw [List.length_replicate]; exact sz' (by omega), hN3 _ _ ⟨s', hp'.mono ?_, ?_, rfl⟩⟩
          · have e : ((0 + t + 1 : Nat) : Int) = ((0 + t : Nat) : Int) + 1 := by omega
            rw [e, Int.mul_add, Int.mul_one]
            exact Int.le_refl _
          · rw [List.replicate_succ']
        · obtain ⟨s, hp, rfl, rfl⟩ := hI
          rw [rg_len]
          simp only [restore, bools_rep, all_rep, wSeq, wNext, wIfS, wSetF, wSet, into, wSetIx, wRet, wRetN, wDrop, wB, wBin, wUn, wCB, wCons, wNil, wVar, wC, wIf, wAnd, wOr, DL.wNot, wAndV, wOrV, wNotV, wTup, wLst, wSl, wNoPart, wPart, wChain, wUnp, wgTup, wgCons, wgNil, wName, wIsi, wListRg, wRg1, wRg2, wTupRg, wPuts, puts, Rz.sd, wConsH, wAppend, wExtend, ownL, dI, dI0, dIx, dInt, dAbs, dLen, dMax2, dMin2, dSum, dAll, dAny, dList, dTuple, dAdd, dNeg, dIsN, dNotN, PD.isN, dSl, look, looks, ok, Rz.pd, SD.pd, OD.pd, Rz.cold, Rz.cool, warm, pdsOf, frz, frzAll, leave, argOf, onceB, newBor, isBor, ty_non, ty_bl, ty_int, ty_str, ty_lst, ty_scr, ty_tup, ty_dct, isa, String.reduceBEq, beq_self_eq_true, Bool.false_and, Bool.and_false, Bool.not_true, Bool.or_self, wYes, wCall, backS_0, backS_1, backS_2, backS_3, backS_4, backS_o0, backS_o1, backS_o2, backS_o3, dEq_int, dEq_str, dNeX_int, dNeX_str, List.length_cons, List.length_nil, List.cons_append, List.nil_append, List.replicate, Nat.reduceAdd, Nat.reduceSub, List.getElem?_cons_zero, List.getElem?_cons_succ, Option.bind_some, List.set_cons_zero, List.set_cons_succ, List.map_cons, List.map_nil, List.any_cons, List.any_nil, List.getD_cons_zero, List.getD_cons_succ, true_or, or_true, true_and, and_true, Bool.and_true, Bool.true_and, Bool.or_false, Bool.false_or, Bool.not_false, Bool.not_true, Bool.or_true, Bool.true_or, decide_true, decide_false, wFor, wRng1, wRng2, wLc, wSeqI, items, wEnumX, wCallO, wNever, noOwn, List.all_cons, List.all_nil, wipeS, Bool.and_self, decide_eq_true_eq, atI0a, atI0b, atI0c, atI1b, atI1c, atI2c, wZipX, seqP]
          exact ⟨.inr ⟨_, rfl⟩, hN2 _ ⟨_, _, rfl⟩⟩
    · obtain ⟨s1, s2, rfl⟩ := hI
      exact hN _ ⟨s1, s2, rfl⟩
  · obtain ⟨s1, s2, rfl⟩ := hρ
    simp only [wSeq, wNext, wIfS, wSetF, wSet, into, wSetIx, wRet, wRetN, wDrop, wB, wBin, wUn, wCB, wCons, wNil, wVar, wC, wIf, wAnd, wOr, DL.wNot, wAndV, wOrV, wNotV, wTup, wLst, wSl, wNoPart, wPart, wChain, wUnp, wgTup, wgCons, wgNil, wName, wIsi, wListRg, wRg1, wRg2, wTupRg, wPuts, puts, Rz.sd, wConsH, wAppend, wExtend, ownL, dI, dI0, dIx, dInt, dAbs, dLen, dMax2, dMin2, dSum, dAll, dAny, dList, dTuple, dAdd, dNeg, dIsN, dNotN, PD.isN, dSl, look, looks, ok, Rz.pd, SD.pd, OD.pd, Rz.cold, Rz.cool, warm, pdsOf, frz, frzAll, leave, argOf, onceB, newBor, isBor, ty_non, ty_bl, ty_int, ty_str, ty_lst, ty_scr, ty_tup, ty_dct, isa, String.reduceBEq, beq_self_eq_true, Bool.false_and, Bool.and_false, Bool.not_true, Bool.or_self, wYes, wCall, backS_0, backS_1, backS_2, backS_3, backS_4, backS_o0, backS_o1, backS_o2, backS_o3, dEq_int, dEq_str, dNeX_int, dNeX_str, List.length_cons, List.length_nil, List.cons_append, List.nil_append, List.replicate, Nat.reduceAdd, Nat.reduceSub, List.getElem?_cons_zero, List.getElem?_cons_succ, Option.bind_some, List.set_cons_zero, List.set_cons_succ, List.map_cons, List.map_nil, List.any_cons, List.any_nil, List.getD_cons_zero, List.getD_cons_succ, true_or, or_true, true_and, and_true, Bool.and_true, Bool.true_and, Bool.or_false, Bool.false_or, Bool.not_false, Bool.not_true, Bool.or_true, Bool.true_or, decide_true, decide_false, wFor, wRng1, wRng2, wLc, wSeqI, items, wEnumX, wCallO, wNever, noOwn, List.all_cons, List.all_nil, wipeS, Bool.and_self, decide_eq_true_eq, atI0a, atI0b, atI0c, atI1b, atI1c, atI2c, wZipX, seqP]
end DL

set_option Elab.async false
set_option linter.all false
set_option maxRecDepth 100000
set_option maxHeartbeats 4000000
set_option exponentiation.threshold 3000
namespace DL
open PySem L2
/-- a comprehension with two fors: each item of the first adds g of it, the slots stay -/
theorem compO_same {vs vs1 : List Nat} {wg wg1 : Wg} {wt wt1 : Wt} {wI1 : Wi} {we : We} {g : PD → List PD} {ρ : Sl} {Q : List PD → Sl → Prop} {c : Nat} : ∀ (ds : List PD) (acc : List PD), acc.length + ds.length * c ≤ 100000 →
    (∀ d ∈ ds, ∀ (acc : List PD) (N : List PD → Sl → Prop), acc.length + c ≤ 100000 → N (acc ++ g d) ρ → wg d ρ fun ρ1 => wt ρ1 fun b ρ2 => match b with
      | true => wI1 ρ2 fun ds1 ρ3 => compL vs1 wg1 wt1 we ds1 acc (fun acc' ρ4 => N acc' (wipeS ρ4 vs)) (wipeS ρ3 vs1)
      | false => N acc (wipeS ρ2 vs)) → (∀ d ∈ ds, (g d).length ≤ c) → Q (acc ++ ds.flatMap g) ρ → compO vs vs1 wg wt wI1 wg1 wt1 we ds acc Q ρ
  | [], acc, _, _, _, hQ => by
    rw [List.flatMap_nil, List.append_nil] at hQ
    exact hQ
  | d :: ds, acc, hz, h, hc, hQ => by
    rw [List.length_cons, Nat.add_mul, Nat.one_mul] at hz
    refine h d List.mem_cons_self acc (fun acc' ρ' => compO vs vs1 wg wt wI1 wg1 wt1 we ds acc' Q ρ') (by omega) ?_
    refine compO_same ds _ ?_ (fun d' hd => h d' (List.mem_cons_of_mem _ hd)) (fun d' hd => hc d' (List.mem_cons_of_mem _ hd)) ?_
    · rw [List.length_append]
      have := hc d List.mem_cons_self
      omega
    · rw [List.flatMap_cons] at hQ
      rw [List.append_assoc]
      exact hQ
/-- a comprehension that goes on at a list, the slots stay -/
theorem compL_on {vs : List Nat} {wg : Wg} {wt : Wt} {we : We} {g : PD → PD} {ρ : Sl} {Q : List PD → Sl → Prop} {ds acc0 : List PD} (hz : acc0.length + ds.length ≤ 100000)
    (h : ∀ d ∈ ds, ∀ (acc : List PD) (N : List PD → Sl → Prop), acc.length < sizeLine → N (acc ++ [g d]) ρ → wg d ρ fun ρ' => wt ρ' fun b ρ2 => match b with
      | true => we ρ2 fun r ρ3 => warm r ρ3 ∧ frz [r.cool] ρ3 fun es ρ4 => match es with
        | [y] => acc.length < sizeLine ∧ N (acc ++ [y]) (wipeS ρ4 vs)
        | _ => False
      | false => N acc (wipeS ρ2 vs)) (hQ : Q (acc0 ++ ds.map g) ρ) : compL vs wg wt we ds acc0 Q ρ := by
  refine compL_upto (fun k acc ρ' => ρ' = ρ ∧ acc = acc0 ++ (ds.take k).map g) ds 0 acc0 ρ ⟨rfl, by simp⟩ (fun j d acc ρ' N hj hI hN => ?_) (fun acc ρ' hI => ?_)
  · obtain ⟨rfl, rfl⟩ := hI
    have hjl := (List.getElem?_eq_some_iff.mp hj).1
    refine h d (List.mem_of_getElem? hj) _ N (by rw [List.length_append, List.length_map, List.length_take]; exact sz' (by omega)) (hN _ _ ⟨rfl, ?_⟩)
    rw [Nat.zero_add, List.take_add_one, hj, List.map_append, List.append_assoc]
    rfl
  · obtain ⟨rfl, rfl⟩ := hI
    rw [Nat.zero_add, List.take_length]
    exact hQ
end DL

set_option Elab.async false
set_option linter.all false
set_option maxRecDepth 100000
set_option maxHeartbeats 4000000
set_option exponentiation.threshold 3000
namespace DL
open PySem L2
def wTak4 (A B C D : Int) : Ws := (wSeq (wIfS (wB (wBin (dI0 fun i j => .bl (decide (j < i))) (wBin dIx (wVar 0) (wC (.int 0))) (wC (.int 0)))) (wSeq (wSetF 4 (wBin (dI CPos fun i j => .int (i % j)) (wCB dInt (wCons (wBin dIx (wVar 0) (wC (.int 0))) wNil)) (wVar 1)))
  (wSeq (wSetIx 0 (wBin (dI CDivW fun i j => .int (i / j)) (wBin dIx (wVar 0) (wC (.int 0))) (wVar 1)) (wC (.int 0)))
  (wRet (wVar 4)))) wNext)
  (wSeq (wSetIx 0 (wBin dAdd (wBin dIx (wVar 0) (wC (.int 2))) (wC (.int 1))) (wC (.int 2)))
  (wSeq (wSetF 2 (wBin dIx (wLst (wCons (wC (.int 2147483647)) (wCons (wC (.int 2147483629)) (wCons (wC (.int 2147483587)) (wCons (wC (.int 2147483579)) (wCons (wC (.int 2147483563)) wNil)))))) (wBin (dI CPos fun i j => .int (i % j)) (wCB dInt (wCons (wBin dIx (wVar 0) (wC (.int 2))) wNil)) (wC (.int 5)))))
  (wSeq (wSetF 3 (wBin (dI CPos fun i j => .int (i % j)) (wCB dInt (wCons (wBin (dI CPowX fun i j => .int (i ^ j.toNat)) (wCB dInt (wCons (wBin dAdd (wBin dAdd (wBin dIx (wVar 0) (wC (.int 1))) (wBin (dI CMulX fun i j => .int (i * j)) (wBin (dI CMulX fun i j => .int (i * j)) (wC (.int A)) (wBin dIx (wVar 0) (wC (.int 2)))) (wBin dIx (wVar 0) (wC (.int 2))))) (wC (.int B))) wNil)) (wC (.int 3))) wNil)) (wVar 2)))
  (wSeq (wSetF 3 (wBin (dI CPos fun i j => .int (i % j)) (wCB dInt (wCons (wBin (dI CMulX fun i j => .int (i * j)) (wVar 3) (wBin dAdd (wBin (dI CPos fun i j => .int (i % j)) (wCB dInt (wCons (wVar 3) wNil)) (wC (.int C))) (wBin (dI CMulX fun i j => .int (i * j)) (wC (.int D)) (wBin dIx (wVar 0) (wC (.int 2)))))) wNil)) (wC (.int 2305843009213693907))))
  (wRet (wBin (dI CPos fun i j => .int (i % j)) (wCB dInt (wCons (wBin (dI CDivW fun i j => .int (i / j)) (wVar 3) (wC (.int 173))) wNil)) (wVar 1))))))))
def FTak4 (A B C D : Int) : Fd := mkF (pin [0, 1]) 5 (fun _ => wTak4 A B C D)
/-- the numbers of a pot are small -/
def AB4 (A B C D : Int) : Prop := 0 ≤ A ∧ A ≤ 1000000 ∧ 0 ≤ B ∧ B ≤ 1000000 ∧ 0 < C ∧ C ≤ 1000000 ∧ 0 ≤ D ∧ D ≤ 1000000
theorem tak4_ok {A B C D m n : Int} {s : SD} {Q : Rz → Sl → Prop} {Ξ : Xp} (hAB : AB4 A B C D) (hp : Pot m s) (hm : m ≤ 1000000000000) (hn : 0 < n) (hn' : Sm n)
    (h : ∀ d s', 0 ≤ d → d < n → Pot (m + 1) s' → Q (.dat (.int d)) [s', .dat (.int n)]) : FTak4 A B C D [s, .dat (.int n)] Q Ξ := by
  obtain ⟨a, b, c, rfl, ha, hb, hb', hc, hc'⟩ := hp
  obtain ⟨hA, hA', hB, hB', hC, hC', hD, hD'⟩ := hAB
  unfold FTak4 mkF
  refine ⟨pinned2 (fun o z => by cases z), ?_⟩
  simp only [wTak4, wSeq, wIfS, wSetF, wSet, wSetIx, wRet, wB, wBin, wUn, wCB, wCons, wNil, wVar, wC, dI, dI0, dIx, dInt, look, looks, ok, Rz.pd, SD.pd, OD.pd, Rz.cold, Rz.cool, warm, pdsOf, frz, frzAll, ownL, List.length_cons, List.length_nil, List.cons_append, List.nil_append, List.replicate, Nat.reduceAdd, Nat.reduceSub, List.getElem?_cons_zero, List.getElem?_cons_succ, Option.bind_some, atI0c, atI1c, atI2c, ix0, ix2, List.set_cons_zero, List.set_cons_succ, true_or, or_true, true_and, wLst, leave, fin, wNext, dAdd]
  have hpos : CPos a n := hn
  have hdiv : CDivW a n := divX hn hn'
  by_cases h0 : 0 < a
  · simp only [decide_eq_true h0]
    refine ⟨hpos, hdiv, ?_⟩
    have := emod_rng (x := a) hn
    exact h (a % n) _ this.1 this.2 ⟨a / n, b, c, rfl, Int.ediv_nonneg ha (by omega), hb, hb', hc, by omega⟩
  · simp only [decide_eq_false h0]
    obtain ⟨p, ep, p0, p1⟩ := primes ((c + 1) % 5) (emod_rng (by decide)).1 (emod_rng (by decide)).2
    rw [ep]
    have hc1 : Sm (c + 1) := sm_big (by omega)
    have hm2 : Sm (A * (c + 1)) := by
      have q1 : A * (c + 1) ≤ 1000000 * 1000000000001 := Int.mul_le_mul hA' (by omega) (by omega) (by decide)
      have q0 : 0 ≤ A * (c + 1) := Int.mul_nonneg hA (by omega)
      exact sm_big (by omega)
    have q1 : A * (c + 1) * (c + 1) ≤ 1000000 * 1000000000001 * 1000000000001 := Int.mul_le_mul (Int.mul_le_mul hA' (by omega) (by omega) (by decide)) (by omega) (by omega) (by decide)
    have q0 : 0 ≤ A * (c + 1) * (c + 1) := Int.mul_nonneg (Int.mul_nonneg hA (by omega)) (by omega)
    refine ⟨by rw [sizeLine_eq]; decide, .inr ⟨_, rfl⟩, by unfold CPos; decide, mulX (sm_big (by omega)) hc1, mulX hm2 hc1, powX (sm_big (by omega)) (by decide) (by decide), ?_⟩
    show CPos _ p ∧ _
    obtain ⟨r0, r1⟩ := emod_rng (x := (b + A * (c + 1) * (c + 1) + B) ^ Int.toNat 3) p0
    generalize (b + A * (c + 1) * (c + 1) + B) ^ Int.toNat 3 % p = u at r0 r1 ⊢
    obtain ⟨v0, v1⟩ := emod_rng (x := u) (n := C) hC
    have q3 : D * (c + 1) ≤ 1000000 * 1000000000001 := Int.mul_le_mul hD' (by omega) (by omega) (by decide)
    have q4 : 0 ≤ D * (c + 1) := Int.mul_nonneg hD (by omega)
    refine ⟨p0, hC, mulX (sm_big (by omega)) hc1, mulX (sm_big (by omega)) (sm_big (by omega)), by unfold CPos; decide, divX (by decide) (sm_big (by decide)), hpos, ?_⟩
    have := emod_rng (x := u * (u % C + D * (c + 1)) % 2305843009213693907 / 173) hn
    exact h _ _ this.1 this.2 ⟨a, b, c + 1, rfl, ha, hb, hb', by omega, by omega⟩
def wOf4 (A B C D : Int) : Ws := (wRet (wBin dIx (wVar 1) (wCall 2 (FTak4 A B C D) noX (wCons (wVar 0) (wCons (wCB dLen (wCons (wVar 1) wNil)) wNil)))))
def FOf4 (A B C D : Int) : Fd := mkF (pin [0, 1]) 2 (fun _ => wOf4 A B C D)
theorem of4_ok {A B C D m : Int} {s : SD} {xs : List PD} {Q : Rz → Sl → Prop} {Ξ : Xp} (hAB : AB4 A B C D) (hp : Pot m s) (hm : m ≤ 1000000000000) (h0 : 0 < xs.length) (h1 : xs.length ≤ 100000)
    (h : ∀ x s', x ∈ xs → Pot (m + 1) s' → Q (.dat x) [s', .dat (.lst xs)]) : FOf4 A B C D [s, .dat (.lst xs)] Q Ξ := by
  obtain ⟨o, ho⟩ := hp.own
  unfold FOf4 mkF
  refine ⟨pinned2 (fun o z => by cases z), ?_⟩
  subst ho
  simp only [wOf4, wSeq, wNext, wIfS, wSetF, wSet, into, wSetIx, wRet, wRetN, wDrop, wB, wBin, wUn, wCB, wCons, wNil, wVar, wC, wIf, wAnd, wOr, wNot, wAndV, wOrV, wNotV, wTup, wLst, wSl, wNoPart, wPart, wChain, wUnp, wgTup, wgCons, wgNil, wName, wIsi, wListRg, wRg1, wRg2, wTupRg, wPuts, puts, Rz.sd, wConsH, wAppend, wExtend, ownL, dI, dI0, dIx, dInt, dAbs, dLen, dMax2, dMin2, dSum, dAll, dAny, dList, dTuple, dAdd, dNeg, dIsN, dNotN, PD.isN, dSl, look, looks, ok, Rz.pd, SD.pd, OD.pd, Rz.cold, Rz.cool, warm, pdsOf, frz, frzAll, leave, argOf, onceB, newBor, isBor, ty_non, ty_bl, ty_int, ty_str, ty_lst, ty_scr, ty_tup, ty_dct, isa, String.reduceBEq, beq_self_eq_true, Bool.false_and, Bool.and_false, Bool.not_true, Bool.or_self, wYes, wCall, backS_0, backS_1, backS_2, backS_3, backS_4, backS_o0, backS_o1, backS_o2, backS_o3, dEq_int, dEq_str, dNeX_int, dNeX_str, List.length_cons, List.length_nil, List.cons_append, List.nil_append, List.replicate, Nat.reduceAdd, Nat.reduceSub, List.getElem?_cons_zero, List.getElem?_cons_succ, Option.bind_some, List.set_cons_zero, List.set_cons_succ, List.map_cons, List.map_nil, List.any_cons, List.any_nil, List.getD_cons_zero, List.getD_cons_succ, true_or, or_true, true_and, and_true, Bool.and_true, Bool.true_and, Bool.or_false, Bool.false_or, Bool.not_false, Bool.not_true, Bool.or_true, Bool.true_or, decide_true, decide_false, wFor, wRng1, wRng2, wLc, wSeqI, items, wEnumX, wCallO, wNever, noOwn, List.all_cons, List.all_nil, wipeS, Bool.and_self, decide_eq_true_eq, atI0a, atI0b, atI0c, atI1b, atI1c, atI2c]
  refine tak4_ok hAB hp hm (by omega) (sm_big (by omega)) fun d s' hd hd' hp' => ?_
  obtain ⟨x, hat, hx⟩ := atI_of hd hd'
  obtain ⟨o', ho'⟩ := hp'.own
  subst ho'
  rw [backS_o1 rfl]
  simp only [wSeq, wNext, wIfS, wSetF, wSet, into, wSetIx, wRet, wRetN, wDrop, wB, wBin, wUn, wCB, wCons, wNil, wVar, wC, wIf, wAnd, wOr, wNot, wAndV, wOrV, wNotV, wTup, wLst, wSl, wNoPart, wPart, wChain, wUnp, wgTup, wgCons, wgNil, wName, wIsi, wListRg, wRg1, wRg2, wTupRg, wPuts, puts, Rz.sd, wConsH, wAppend, wExtend, ownL, dI, dI0, dIx, dInt, dAbs, dLen, dMax2, dMin2, dSum, dAll, dAny, dList, dTuple, dAdd, dNeg, dIsN, dNotN, PD.isN, dSl, look, looks, ok, Rz.pd, SD.pd, OD.pd, Rz.cold, Rz.cool, warm, pdsOf, frz, frzAll, leave, argOf, onceB, newBor, isBor, ty_non, ty_bl, ty_int, ty_str, ty_lst, ty_scr, ty_tup, ty_dct, isa, String.reduceBEq, beq_self_eq_true, Bool.false_and, Bool.and_false, Bool.not_true, Bool.or_self, wYes, wCall, backS_0, backS_1, backS_2, backS_3, backS_4, backS_o0, backS_o1, backS_o2, backS_o3, dEq_int, dEq_str, dNeX_int, dNeX_str, List.length_cons, List.length_nil, List.cons_append, List.nil_append, List.replicate, Nat.reduceAdd, Nat.reduceSub, List.getElem?_cons_zero, List.getElem?_cons_succ, Option.bind_some, List.set_cons_zero, List.set_cons_succ, List.map_cons, List.map_nil, List.any_cons, List.any_nil, List.getD_cons_zero, List.getD_cons_succ, true_or, or_true, true_and, and_true, Bool.and_true, Bool.true_and, Bool.or_false, Bool.false_or, Bool.not_false, Bool.not_true, Bool.or_true, Bool.true_or, decide_true, decide_false, wFor, wRng1, wRng2, wLc, wSeqI, items, wEnumX, wCallO, wNever, noOwn, List.all_cons, List.all_nil, wipeS, Bool.and_self, decide_eq_true_eq, atI0a, atI0b, atI0c, atI1b, atI1c, atI2c]
  rw [hat]
  exact h x _ (List.mem_of_getElem? hx) hp'
end DL

set_option Elab.async false
set_option linter.all false
set_option maxRecDepth 100000
set_option maxHeartbeats 4000000
set_option exponentiation.threshold 3000
namespace DL
open PySem L2
/-! ### repr of small data -/
theorem sok_of (s : String) : PyData.strOk (Str.ofString s) = true := by
  rw [Str.ofString_eq_toList]
  unfold PyData.strOk
  simp only [List.all_toArray, List.all_map, List.all_eq_true]
  intro c _
  have h := c.valid
  have : c.toNat < 0x110000 := by
    rcases h with h | ⟨_, h⟩
    · exact Nat.lt_trans h (by decide)
    · exact h
  simpa using this
theorem sok_app {a b : Str} (h : PyData.strOk a = true) (h' : PyData.strOk b = true) : PyData.strOk (a ++ b) = true := by
  unfold PyData.strOk at *
  show (a.cps ++ b.cps).all _ = true
  simp only [Array.all_append, h, h', Bool.and_self]
theorem sok_join {sep : Str} (hs : PyData.strOk sep = true) : ∀ {ts : List Str}, (∀ t ∈ ts, PyData.strOk t = true) → PyData.strOk (Str.join sep ts) = true
  | [], _ => by simp [Str.join, PyData.strOk, Str.empty]
  | [x], h => h x List.mem_cons_self
  | x :: y :: r, h => by
    show PyData.strOk (x ++ sep ++ Str.join sep (y :: r)) = true
    exact sok_app (sok_app (h x List.mem_cons_self) hs) (sok_join hs fun t ht => h t (List.mem_cons_of_mem _ ht))
theorem sok_from : ∀ {ts : List Str} (k : Nat) (acc : Str), PyData.strOk acc = true → (∀ t ∈ ts, PyData.strOk t = true) → PyData.strOk (textFrom k acc ts) = true
  | [], k, acc, h, _ => h
  | t :: ts, k, acc, h, hs => by
    unfold textFrom
    exact sok_from (k + 1) _ (sok_app (sok_app h (sok_of _)) (hs t List.mem_cons_self)) fun t' ht => hs t' (List.mem_cons_of_mem _ ht)
theorem sok_list {ts : List Str} (h : ∀ t ∈ ts, PyData.strOk t = true) : PyData.strOk (listText ts) = true := sok_app (sok_from 0 _ (sok_of _) h) (sok_of _)
theorem sok_tuple {ts : List Str} (h : ∀ t ∈ ts, PyData.strOk t = true) : PyData.strOk (tupleText ts) = true := by
  unfold tupleText
  refine sok_app (sok_app (sok_of _) (sok_join (sok_of _) h)) ?_
  split <;> exact sok_of _
/-- a word whose repr is short -/
def niceS (s : Str) : Bool := PyData.strOk s && PyData.strOk (reprText s) && decide ((reprText s).length ≤ 60)
mutual
def nice : PD → Bool
  | .non => true
  | .bl _ => true
  | .int i => decide (i.natAbs < 10 ^ 40)
  | .str s => niceS s
  | .lst xs => niceAll xs
  | .tup xs => niceAll xs
  | .scr _ => false
  | .dct _ => false
  | .ins _ _ => false
  | .err _ _ => false
  | .fn _ _ => false
def niceAll : List PD → Bool
  | [] => true
  | x :: xs => nice x && niceAll xs
end
mutual
/-- how many parts -/
def nodes : PD → Nat
  | .lst xs => nodesAll xs + 1
  | .tup xs => nodesAll xs + 1
  | .non => 1
  | .bl _ => 1
  | .int _ => 1
  | .str _ => 1
  | .scr _ => 1
  | .dct _ => 1
  | .ins _ _ => 1
  | .err _ _ => 1
  | .fn _ _ => 1
def nodesAll : List PD → Nat
  | [] => 0
  | x :: xs => nodes x + nodesAll xs
end
theorem log40 {i : Int} (h : i.natAbs < 10 ^ 40) : i.natAbs.log2 < 1920 := by
  by_cases h0 : i.natAbs = 0
  · rw [h0]; decide
  · refine (Nat.log2_lt h0).mpr (Nat.lt_of_lt_of_le h ?_)
    exact Nat.le_trans (show 10 ^ 40 ≤ 2 ^ 140 by decide +kernel) (Nat.pow_le_pow_right (by decide) (by decide))
theorem shown_int40 {i : Int} (h : i.natAbs < 10 ^ 40) : (PyData.shown (.int i)).length ≤ 41 := by
  have e := int_text_length_le10 (k := 40) (by decide) h
  show (Str.ofString (toString i)).length ≤ 41
  rw [ofString_length]; exact e
mutual
theorem nice_ok : ∀ {d : PD}, nice d = true → d.plain = true ∧ d.py.showable = true ∧ d.py.hasDict = false ∧ d.py.shown.length + 2 ≤ 62 * nodes d ∧ PyData.strOk d.py.shown = true
  | .non, _ => ⟨rfl, by simp [PD.py, PyData.showable], by simp [PD.py, PyData.hasDict], by simp only [PD.py, PyData.shown, nodes]; decide, by simp only [PD.py, PyData.shown]; exact sok_of _⟩
  | .bl b, _ => ⟨rfl, by simp [PD.py, PyData.showable], by simp [PD.py, PyData.hasDict], by simp only [PD.py, PyData.shown, nodes]; cases b <;> decide, by simp only [PD.py, PyData.shown]; cases b <;> exact sok_of _⟩
  | .int i, h => by
    have h : i.natAbs < 10 ^ 40 := by simpa [nice] using h
    refine ⟨rfl, by simp [PD.py, PyData.showable, log40 h], by simp [PD.py, PyData.hasDict], ?_, by simp only [PD.py, PyData.shown]; exact sok_of _⟩
    have := shown_int40 h
    simp only [PD.py, nodes]
    omega
  | .str s, h => by
    have h : (PyData.strOk s && PyData.strOk (reprText s) && decide ((reprText s).length ≤ 60)) = true := h
    simp only [Bool.and_eq_true, decide_eq_true_eq] at h
    refine ⟨rfl, by simp [PD.py, PyData.showable], by simp [PD.py, PyData.hasDict], ?_, by simp only [PD.py, PyData.shown]; exact h.1.2⟩
    simp only [PD.py, PyData.shown, nodes]
    omega
  | .lst xs, h => by
    have h : niceAll xs = true := h
    obtain ⟨h1, h2, h3, h4, h5⟩ := niceAll_ok h
    refine ⟨by simp only [PD.plain]; exact h1, by simp only [PD.py, PyData.showable]; exact h2, by simp only [PD.py, PyData.hasDict]; exact h3, ?_, by simp only [PD.py, PyData.shown]; exact sok_list h5⟩
    have := listText_len_le (PyData.shownAll (pyAll xs))
    simp only [PD.py, PyData.shown, nodes]
    omega
  | .tup xs, h => by
    have h : niceAll xs = true := h
    obtain ⟨h1, h2, h3, h4, h5⟩ := niceAll_ok h
    refine ⟨by simp only [PD.plain]; exact h1, by simp only [PD.py, PyData.showable]; exact h2, by simp only [PD.py, PyData.hasDict]; exact h3, ?_, by simp only [PD.py, PyData.shown]; exact sok_tuple h5⟩
    have := tupleText_len_le (PyData.shownAll (pyAll xs))
    simp only [PD.py, PyData.shown, nodes]
    omega
  | .scr _, h => by cases h
  | .dct _, h => by cases h
  | .ins _ _, h => by cases h
  | .err _ _, h => by cases h
  | .fn _ _, h => by cases h
theorem niceAll_ok : ∀ {xs : List PD}, niceAll xs = true → plainAll xs = true ∧ PyData.showableAll (pyAll xs) = true ∧ PyData.hasDictAll (pyAll xs) = false ∧ ((PyData.shownAll (pyAll xs)).map (·.length)).sum + 2 * (PyData.shownAll (pyAll xs)).length ≤ 62 * nodesAll xs ∧ ∀ t ∈ PyData.shownAll (pyAll xs), PyData.strOk t = true
  | [], _ => ⟨rfl, by simp [pyAll, PyData.showableAll], by simp [pyAll, PyData.hasDictAll], by simp [pyAll, PyData.shownAll, nodesAll], fun t h => by simp [pyAll, PyData.shownAll] at h⟩
  | x :: xs, h => by
    have h : (nice x && niceAll xs) = true := h
    obtain ⟨ha, hb⟩ := Bool.and_eq_true_iff.mp h
    obtain ⟨a1, a2, a3, a4, a5⟩ := nice_ok ha
    obtain ⟨b1, b2, b3, b4, b5⟩ := niceAll_ok hb
    refine ⟨by simp only [plainAll, a1, b1, Bool.and_self], by simp only [pyAll, PyData.showableAll, a2, b2, Bool.and_self], by simp only [pyAll, PyData.hasDictAll, a3, b3, Bool.or_self], ?_, fun t ht => ?_⟩
    · simp only [pyAll, PyData.shownAll, List.map_cons, List.sum_cons, List.length_cons, nodesAll]
      omega
    · simp only [pyAll, PyData.shownAll, List.mem_cons] at ht
      rcases ht with rfl | ht
      · exact a5
      · exact b5 t ht
end
theorem sizeLine_big : 1000000 ≤ sizeLine := by rw [sizeLine_eq]; decide
theorem show_ok {d : PD} (h : nice d = true) (hd : d.py.depth ≤ 60) (hn : nodes d ≤ 10000) : showOk d := by
  obtain ⟨h1, h2, h3, h4, _⟩ := nice_ok h
  exact ⟨h1, h2, h3, by omega, by have := sizeLine_big; omega⟩
/-- repr(d), d small -/
theorem repr_is {d : PD} {k : Rz → Prop} (h : nice d = true) (hd : d.py.depth ≤ 60) (hn : nodes d ≤ 10000) (q : k (.dat (.str d.py.shown))) : dReprX [d] k := by
  have e : dReprX [d] k = dRepr [d] k := by
    cases d <;> first | rfl | (cases h; done)
  rw [e]
  exact ⟨show_ok h hd hn, q⟩
theorem ne_self {d : PD} (h : nice d = true) {k : Rz → Prop} (q : k (.dat (.bl false))) : dNeX (.str d.py.shown) (.str d.py.shown) k := by
  rw [dNeX_str (nice_ok h).2.2.2.2 (nice_ok h).2.2.2.2]
  simpa using q
theorem eq_self {d : PD} (h : nice d = true) {k : Rz → Prop} (q : k (.dat (.bl true))) : dEq (.str d.py.shown) (.str d.py.shown) k := by
  rw [dEq_str (nice_ok h).2.2.2.2 (nice_ok h).2.2.2.2]
  simpa using q
/-- repr(a) != repr(b), both the same -/
theorem ne_repr {d : PD} {wa wb : We} {ρ : Sl} {Q : Rz → Sl → Prop} (h : nice d = true) (hd : d.py.depth ≤ 60) (hn : nodes d ≤ 10000) (ha : ∀ Q' : Rz → Sl → Prop, Q' (.dat d) ρ → wa ρ Q') (hb : ∀ Q' : Rz → Sl → Prop, Q' (.dat d) ρ → wb ρ Q') (q : Q (.dat (.bl false)) ρ) :
    wBin dNeX (wCB dReprX (wCons wa wNil)) (wCB dReprX (wCons wb wNil)) ρ Q := by
  unfold wBin wCB wCons wNil
  refine ha _ ⟨.inl rfl, ?_⟩
  simp only [looks, pdsOf, Rz.pd, Rz.cool, ok]
  refine repr_is h hd hn ⟨.inl rfl, ?_⟩
  refine hb _ ⟨.inl rfl, ?_⟩
  simp only [looks, pdsOf, Rz.pd, Rz.cool, ok]
  refine repr_is h hd hn ?_
  simp only [look, Rz.pd, ok]
  exact ne_self h q
end DL

set_option Elab.async false
set_option linter.all false
set_option maxRecDepth 100000
set_option maxHeartbeats 4000000
set_option exponentiation.threshold 3000
namespace Lk
open PySem L2 DL
theorem heard_err {cl : Nat → Addr} {L : Lm1} {Q : Rz → Prop} {j : Nat} {d : PD} (hj : j < 2) (h : ∀ (Qr : Rz → Prop) (Ξ : Xp), Ξ (cl j) d → L Qr Ξ) (q : Q (.dat (.err (cl j) d))) : F__law_heard cl L Q := fun fa gp => by
  simp only [w__law_heard, wTry, wSeq, wDrop, wAct, wRet, wVar, wC, wCons, wNil, List.length_cons, List.length_nil, Nat.reduceAdd, Nat.reduceSub, List.replicate, hide, List.map_cons, List.map_nil, SD.veil, List.getElem?_cons_zero, List.getElem?_cons_succ, List.set_cons_zero, List.set_cons_succ, true_and]
  refine h _ _ ⟨j, hj, rfl, ?_⟩
  simp only [Rz.free, true_and]
  exact q
/-- Device(text) raises -/
theorem make_bad {cl : Nat → Addr} {wt : We} {ρ : Sl} {v u : PD} {Q : Rz → Sl → Prop} {Ξ : Xp} (ht : ∀ Q' : Rz → Sl → Prop, Q' (.dat v) ρ → wt ρ Q') (h : ∀ Q' : Rz → Sl → Prop, F_read_stages cl [.dat v] Q' Ξ) : wMake (cl 2) "stages" "text" (F_read_stages cl) Ξ (wCons wt wNil) ρ Q := by
  unfold wMake wCons wNil
  refine ht _ ⟨.inl rfl, ?_⟩
  simp only [frz, frzAll, Rz.cool, ok]
  exact h _
theorem stages_bad {cl : Nat → Addr} {text : Str} {lines : List Str} {i : Nat} {Q : Rz → Sl → Prop} {Ξ : Xp} (hb : Bad lines i) (hsp : Txt.split text ("\n" : Str) = lines) (hz : text.length ≤ 90000) (h : Ξ (cl 0) (.int ((i + 1 : Nat) : Int))) : F_read_stages cl [.dat (.str text)] Q Ξ := by
  rw [e_stages]
  exact readStages_bad hsp hz (by have := hb.len; omega) (fun l hl => (hb.fr l hl).2.2) hb.lt hb.good hb.bad h
theorem heard_bad {cl : Nat → Addr} {wt : We} {ρ : Sl} {v u : PD} {Q : Rz → Sl → Prop} (ht : ∀ Q' : Rz → Sl → Prop, Q' (.dat v) (hide ρ) → wt (hide ρ) Q') (h : ∀ (Q' : Rz → Sl → Prop) (Ξ : Xp), Ξ (cl 0) u → F_read_stages cl [.dat v] Q' Ξ) (q : Q (.dat (.err (cl 0) u)) ρ) :
    wLam (F__law_heard cl) (fun Ξ => wMake (cl 2) "stages" "text" (F_read_stages cl) Ξ (wCons wt wNil)) ρ Q := by
  unfold wLam
  exact heard_err (j := 0) (by decide) (fun Qr Ξ hΞ => make_bad (u := u) ht fun Q' => h Q' Ξ hΞ) q
/-- the lines, joined -/
theorem joined {lines : List Str} {i : Nat} (hb : Bad lines i) : Txt.split (Txt.join ("\n" : Str) lines) ("\n" : Str) = lines ∧ (Txt.join ("\n" : Str) lines).length ≤ 1000 := by
  have hl := hb.len
  have h0 := hb.lt
  refine ⟨TL.split_join tl_lf (by decide +kernel) (fun z => by rw [z] at h0; simp at h0) fun p hp => (hb.fr p hp).1, ?_⟩
  have h1 := join_len (sep := ("\n" : Str)) (ts := lines) (c := 60) fun t ht => (hb.fr t ht).2.1
  have w4 : (("\n" : Str)).length = 1 := by decide +kernel
  rw [w4] at h1
  omega
def Gd (m : Int) (ρ : Sl) : Prop := ∃ s s1 s4 s5 s6, Pot m s ∧ ρ = [s, .dat s1, .emp, .emp, s4, s5, s6, .emp, .emp]
/-- what was caught is a BadDevice with the due value -/
theorem cond_ok {cl : Nat → Addr} {wb : We} {d : PD} {ρ : Sl} {O : On} (h : nice d = true) (hd : d.py.depth ≤ 60) (hn : nodes d ≤ 10000) (h4 : ρ[4]? = some (.dat (.err (cl 0) d))) (hb : ∀ Q' : Rz → Sl → Prop, Q' (.dat d) ρ → wb ρ Q') (q : O.nx ρ) :
    wIfS (wOr (wNot (wB (wIsE cl 2 (kb 0) (wVar 4)))) (wB (wBin dNeX (wCB dReprX (wCons (wVal cl 2 (wVar 4)) wNil)) (wCB dReprX (wCons wb wNil))))) (wRet (wC (.bl false))) wNext O ρ := by
  refine ifs_of false (fun Q hQ => ?_) (fun z => by cases z) (fun _ => q)
  unfold wOr DL.wNot wB
  simp only [wIsE, wVar, h4, look, ok, Rz.pd]
  refine ⟨0, by decide, rfl, ?_⟩
  have e : kb 0 0 = true := rfl
  simp only [e, Bool.not_true]
  refine ne_repr h hd hn (fun Q' hQ' => ?_) hb ?_
  · simp only [wVal, wVar, h4, look, ok, Rz.pd]
    exact ⟨⟨0, by decide, rfl⟩, hQ'⟩
  · exact hQ
def turn1 (cl : Nat → Addr) : Ws := (wSeq (wUnp (wCall 2 (F__law_spoilt cl) noX (wCons (wVar 0) (wCons (wCall 3 (F__law_device cl) noX (wCons (wVar 0) (wCons (wC (.int 6)) (wCons (wC (.int 9)) wNil)))) wNil))) (wgTup 2 (wgCons (wName 5) (wgCons (wName 6) wgNil))))
  (wSeq (wSetF 4 (wLam (F__law_heard cl) fun Ξ => (wMake (cl 2) "stages" "text" (F_read_stages cl) Ξ (wCons (wJoin (wC (.str "\n")) (wVar 5)) wNil))))
  (wIfS (wOr (wNot (wB (wIsE cl 2 (kb 0) (wVar 4)))) (wB (wBin dNeX (wCB dReprX (wCons (wVal cl 2 (wVar 4)) wNil)) (wCB dReprX (wCons (wVar 6) wNil))))) (wRet (wC (.bl false))) wNext)))
theorem turn1_ok {cl : Nat → Addr} {m : Int} {s s4 s5 s6 : SD} {s1 : PD} {O : On} (hp : Pot m s) (hm : m ≤ 10000) (h : ∀ s' s4 s5 s6, Pot (m + 110) s' → O.nx [s', .dat s1, .emp, .emp, s4, s5, s6, .emp, .emp]) : turn1 cl O [s, .dat s1, .emp, .emp, s4, s5, s6, .emp, .emp] := by
  unfold turn1
  obtain ⟨o, rfl⟩ := hp.own
  refine seq_by (fun ρ => ∃ s' lines i, Pot (m + 110) s' ∧ Bad lines i ∧ ρ = [s', .dat s1, .emp, .emp, s4, .dat (.lst (lines.map .str)), .dat (.int ((i + 1 : Nat) : Int)), .emp, .emp]) (fun N hN => ?_) (fun ρ hρ => ?_)
  · simp only [e_device, wSeq, wNext, wIfS, wSetF, wSet, into, wSetIx, wRet, wRetN, wDrop, wB, wBin, wUn, wCB, wCons, wNil, wVar, wC, wIf, wAnd, wOr, DL.wNot, wAndV, wOrV, wNotV, wTup, wLst, wSl, wNoPart, wPart, wChain, wUnp, wgTup, wgCons, wgNil, wName, wIsi, wListRg, wRg1, wRg2, wTupRg, wPuts, puts, Rz.sd, wConsH, wAppend, wExtend, ownL, dI, dI0, dIx, dInt, dAbs, dLen, dMax2, dMin2, dSum, dSumX, dAll, dAny, dList, dTuple, dAdd, dNeg, dIsN, dNotN, PD.isN, dSl, look, looks, ok, Rz.pd, SD.pd, OD.pd, Rz.cold, Rz.cool, warm, pdsOf, frz, frzAll, leave, argOf, onceB, newBor, isBor, ty_non, ty_bl, ty_int, ty_str, ty_lst, ty_scr, ty_tup, ty_dct, isa, String.reduceBEq, beq_self_eq_true, Bool.false_and, Bool.and_false, Bool.not_true, Bool.or_self, wYes, wCall, backS_0, backS_1, backS_2, backS_3, backS_4, backS_o0, backS_o1, backS_o2, backS_o3, dEq_int, dEq_str, dNeX_int, dNeX_str, List.length_cons, List.length_nil, List.cons_append, List.nil_append, List.replicate, Nat.reduceAdd, Nat.reduceSub, List.getElem?_cons_zero, List.getElem?_cons_succ, Option.bind_some, List.set_cons_zero, List.set_cons_succ, List.map_cons, List.map_nil, List.any_cons, List.any_nil, List.getD_cons_zero, List.getD_cons_succ, true_or, or_true, true_and, and_true, Bool.and_true, Bool.true_and, Bool.or_false, Bool.false_or, Bool.not_false, Bool.not_true, Bool.or_true, Bool.true_or, decide_true, decide_false, wFor, wRng1, wRng2, wLc, wSeqI, items, wEnumX, wCallO, wNever, noOwn, List.all_cons, List.all_nil, wipeS, Bool.and_self, decide_eq_true_eq, atI0a, atI0b, atI0c, atI1b, atI1c, atI2c, wZipX, seqP, wRaise, wIsE, wVal, wMk, wPopAt, wPop, wAug, wTr, dTr, dLtX, dDivmod, wPick, pick, List.filterMap_cons, List.filterMap_nil]
    refine lawDevice_ok (st := 6) (most := 9) drw hp (by omega) (by decide) (by decide) (by decide) (by decide) fun sts s' hs _ hp => ?_
    obtain ⟨o2, rfl⟩ := hp.own
    simp only [backS_h2, wSeq, wNext, wIfS, wSetF, wSet, into, wSetIx, wRet, wRetN, wDrop, wB, wBin, wUn, wCB, wCons, wNil, wVar, wC, wIf, wAnd, wOr, DL.wNot, wAndV, wOrV, wNotV, wTup, wLst, wSl, wNoPart, wPart, wChain, wUnp, wgTup, wgCons, wgNil, wName, wIsi, wListRg, wRg1, wRg2, wTupRg, wPuts, puts, Rz.sd, wConsH, wAppend, wExtend, ownL, dI, dI0, dIx, dInt, dAbs, dLen, dMax2, dMin2, dSum, dSumX, dAll, dAny, dList, dTuple, dAdd, dNeg, dIsN, dNotN, PD.isN, dSl, look, looks, ok, Rz.pd, SD.pd, OD.pd, Rz.cold, Rz.cool, warm, pdsOf, frz, frzAll, leave, argOf, onceB, newBor, isBor, ty_non, ty_bl, ty_int, ty_str, ty_lst, ty_scr, ty_tup, ty_dct, isa, String.reduceBEq, beq_self_eq_true, Bool.false_and, Bool.and_false, Bool.not_true, Bool.or_self, wYes, wCall, backS_0, backS_1, backS_2, backS_3, backS_4, backS_o0, backS_o1, backS_o2, backS_o3, dEq_int, dEq_str, dNeX_int, dNeX_str, List.length_cons, List.length_nil, List.cons_append, List.nil_append, List.replicate, Nat.reduceAdd, Nat.reduceSub, List.getElem?_cons_zero, List.getElem?_cons_succ, Option.bind_some, List.set_cons_zero, List.set_cons_succ, List.map_cons, List.map_nil, List.any_cons, List.any_nil, List.getD_cons_zero, List.getD_cons_succ, true_or, or_true, true_and, and_true, Bool.and_true, Bool.true_and, Bool.or_false, Bool.false_or, Bool.not_false, Bool.not_true, Bool.or_true, Bool.true_or, decide_true, decide_false, wFor, wRng1, wRng2, wLc, wSeqI, items, wEnumX, wCallO, wNever, noOwn, List.all_cons, List.all_nil, wipeS, Bool.and_self, decide_eq_true_eq, atI0a, atI0b, atI0c, atI1b, atI1c, atI2c, wZipX, seqP, wRaise, wIsE, wVal, wMk, wPopAt, wPop, wAug, wTr, dTr, dLtX, dDivmod, wPick, pick, List.filterMap_cons, List.filterMap_nil]
    refine ⟨.inr ⟨_, rfl⟩, ?_⟩
    refine spoilt_ok hp (by omega) hs fun lines i s' hb hp => ?_
    obtain ⟨o3, rfl⟩ := hp.own
    simp only [backS_h1, wSeq, wNext, wIfS, wSetF, wSet, into, wSetIx, wRet, wRetN, wDrop, wB, wBin, wUn, wCB, wCons, wNil, wVar, wC, wIf, wAnd, wOr, DL.wNot, wAndV, wOrV, wNotV, wTup, wLst, wSl, wNoPart, wPart, wChain, wUnp, wgTup, wgCons, wgNil, wName, wIsi, wListRg, wRg1, wRg2, wTupRg, wPuts, puts, Rz.sd, wConsH, wAppend, wExtend, ownL, dI, dI0, dIx, dInt, dAbs, dLen, dMax2, dMin2, dSum, dSumX, dAll, dAny, dList, dTuple, dAdd, dNeg, dIsN, dNotN, PD.isN, dSl, look, looks, ok, Rz.pd, SD.pd, OD.pd, Rz.cold, Rz.cool, warm, pdsOf, frz, frzAll, leave, argOf, onceB, newBor, isBor, ty_non, ty_bl, ty_int, ty_str, ty_lst, ty_scr, ty_tup, ty_dct, isa, String.reduceBEq, beq_self_eq_true, Bool.false_and, Bool.and_false, Bool.not_true, Bool.or_self, wYes, wCall, backS_0, backS_1, backS_2, backS_3, backS_4, backS_o0, backS_o1, backS_o2, backS_o3, dEq_int, dEq_str, dNeX_int, dNeX_str, List.length_cons, List.length_nil, List.cons_append, List.nil_append, List.replicate, Nat.reduceAdd, Nat.reduceSub, List.getElem?_cons_zero, List.getElem?_cons_succ, Option.bind_some, List.set_cons_zero, List.set_cons_succ, List.map_cons, List.map_nil, List.any_cons, List.any_nil, List.getD_cons_zero, List.getD_cons_succ, true_or, or_true, true_and, and_true, Bool.and_true, Bool.true_and, Bool.or_false, Bool.false_or, Bool.not_false, Bool.not_true, Bool.or_true, Bool.true_or, decide_true, decide_false, wFor, wRng1, wRng2, wLc, wSeqI, items, wEnumX, wCallO, wNever, noOwn, List.all_cons, List.all_nil, wipeS, Bool.and_self, decide_eq_true_eq, atI0a, atI0b, atI0c, atI1b, atI1c, atI2c, wZipX, seqP, wRaise, wIsE, wVal, wMk, wPopAt, wPop, wAug, wTr, dTr, dLtX, dDivmod, wPick, pick, List.filterMap_cons, List.filterMap_nil]
    exact hN _ ⟨_, lines, i, hp.mono (by omega), hb, rfl⟩
  obtain ⟨s', lines, i, hp, hb, rfl⟩ := hρ
  obtain ⟨o, rfl⟩ := hp.own
  obtain ⟨j1, j2⟩ := joined hb
  refine seq_to (ρ' := [.own o, .dat s1, .emp, .emp, .dat (.err (cl 0) (.int ((i + 1 : Nat) : Int))), .dat (.lst (lines.map .str)), .dat (.int ((i + 1 : Nat) : Int)), .emp, .emp]) (fun N hN => ?_) ?_
  · unfold wSetF
    refine heard_bad (v := .str (Txt.join ("\n" : Str) lines)) (u := .int ((i + 1 : Nat) : Int)) (fun Q' hQ => ?_) (fun Q' Ξ hΞ => stages_bad hb j1 (by omega) hΞ) ?_
    · simp only [hide, List.map_cons, List.map_nil, SD.veil, strsIn_map, wSeq, wNext, wIfS, wSetF, wSet, into, wSetIx, wRet, wRetN, wDrop, wB, wBin, wUn, wCB, wCons, wNil, wVar, wC, wIf, wAnd, wOr, DL.wNot, wAndV, wOrV, wNotV, wTup, wLst, wSl, wNoPart, wPart, wChain, wUnp, wgTup, wgCons, wgNil, wName, wIsi, wListRg, wRg1, wRg2, wTupRg, wPuts, puts, Rz.sd, wConsH, wAppend, wExtend, ownL, dI, dI0, dIx, dInt, dAbs, dLen, dMax2, dMin2, dSum, dSumX, dAll, dAny, dList, dTuple, dAdd, dNeg, dIsN, dNotN, PD.isN, dSl, look, looks, ok, Rz.pd, SD.pd, OD.pd, Rz.cold, Rz.cool, warm, pdsOf, frz, frzAll, leave, argOf, onceB, newBor, isBor, ty_non, ty_bl, ty_int, ty_str, ty_lst, ty_scr, ty_tup, ty_dct, isa, String.reduceBEq, beq_self_eq_true, Bool.false_and, Bool.and_false, Bool.not_true, Bool.or_self, wYes, wCall, backS_0, backS_1, backS_2, backS_3, backS_4, backS_o0, backS_o1, backS_o2, backS_o3, dEq_int, dEq_str, dNeX_int, dNeX_str, List.length_cons, List.length_nil, List.cons_append, List.nil_append, List.replicate, Nat.reduceAdd, Nat.reduceSub, List.getElem?_cons_zero, List.getElem?_cons_succ, Option.bind_some, List.set_cons_zero, List.set_cons_succ, List.map_cons, List.map_nil, List.any_cons, List.any_nil, List.getD_cons_zero, List.getD_cons_succ, true_or, or_true, true_and, and_true, Bool.and_true, Bool.true_and, Bool.or_false, Bool.false_or, Bool.not_false, Bool.not_true, Bool.or_true, Bool.true_or, decide_true, decide_false, wFor, wRng1, wRng2, wLc, wSeqI, items, wEnumX, wCallO, wNever, noOwn, List.all_cons, List.all_nil, wipeS, Bool.and_self, decide_eq_true_eq, atI0a, atI0b, atI0c, atI1b, atI1c, atI2c, wZipX, seqP, wRaise, wIsE, wVal, wMk, wPopAt, wPop, wAug, wTr, dTr, dLtX, dDivmod, wPick, pick, List.filterMap_cons, List.filterMap_nil, wJoin, wSplit, wStrP, dIntS, wFld, wEnumS, wLenSetT, wLenO, wMake, dStr, List.lookup, dIsB, dNotB] at hQ ⊢
      have w3 : (lines.map (fun x => x.length)).sum ≤ lines.length * 60 := sum_le fun t ht => (hb.fr t ht).2.1
      have w4 : (("\n" : Str)).length = 1 := by decide +kernel
      have w5 := hb.len
      rw [w4]
      exact ⟨by omega, hQ⟩
    · simp only [wSeq, wNext, wIfS, wSetF, wSet, into, wSetIx, wRet, wRetN, wDrop, wB, wBin, wUn, wCB, wCons, wNil, wVar, wC, wIf, wAnd, wOr, DL.wNot, wAndV, wOrV, wNotV, wTup, wLst, wSl, wNoPart, wPart, wChain, wUnp, wgTup, wgCons, wgNil, wName, wIsi, wListRg, wRg1, wRg2, wTupRg, wPuts, puts, Rz.sd, wConsH, wAppend, wExtend, ownL, dI, dI0, dIx, dInt, dAbs, dLen, dMax2, dMin2, dSum, dSumX, dAll, dAny, dList, dTuple, dAdd, dNeg, dIsN, dNotN, PD.isN, dSl, look, looks, ok, Rz.pd, SD.pd, OD.pd, Rz.cold, Rz.cool, warm, pdsOf, frz, frzAll, leave, argOf, onceB, newBor, isBor, ty_non, ty_bl, ty_int, ty_str, ty_lst, ty_scr, ty_tup, ty_dct, isa, String.reduceBEq, beq_self_eq_true, Bool.false_and, Bool.and_false, Bool.not_true, Bool.or_self, wYes, wCall, backS_0, backS_1, backS_2, backS_3, backS_4, backS_o0, backS_o1, backS_o2, backS_o3, dEq_int, dEq_str, dNeX_int, dNeX_str, List.length_cons, List.length_nil, List.cons_append, List.nil_append, List.replicate, Nat.reduceAdd, Nat.reduceSub, List.getElem?_cons_zero, List.getElem?_cons_succ, Option.bind_some, List.set_cons_zero, List.set_cons_succ, List.map_cons, List.map_nil, List.any_cons, List.any_nil, List.getD_cons_zero, List.getD_cons_succ, true_or, or_true, true_and, and_true, Bool.and_true, Bool.true_and, Bool.or_false, Bool.false_or, Bool.not_false, Bool.not_true, Bool.or_true, Bool.true_or, decide_true, decide_false, wFor, wRng1, wRng2, wLc, wSeqI, items, wEnumX, wCallO, wNever, noOwn, List.all_cons, List.all_nil, wipeS, Bool.and_self, decide_eq_true_eq, atI0a, atI0b, atI0c, atI1b, atI1c, atI2c, wZipX, seqP, wRaise, wIsE, wVal, wMk, wPopAt, wPop, wAug, wTr, dTr, dLtX, dDivmod, wPick, pick, List.filterMap_cons, List.filterMap_nil]
      exact hN
  · have hi : i < 14 := by have := hb.len; have := hb.lt; omega
    refine cond_ok (d := .int ((i + 1 : Nat) : Int)) (nice_int (by omega)) (by simp [PD.py, PyData.depth]) (by simp [nodes]) rfl (fun Q hQ => ?_) ?_
    · simp only [wSeq, wNext, wIfS, wSetF, wSet, into, wSetIx, wRet, wRetN, wDrop, wB, wBin, wUn, wCB, wCons, wNil, wVar, wC, wIf, wAnd, wOr, DL.wNot, wAndV, wOrV, wNotV, wTup, wLst, wSl, wNoPart, wPart, wChain, wUnp, wgTup, wgCons, wgNil, wName, wIsi, wListRg, wRg1, wRg2, wTupRg, wPuts, puts, Rz.sd, wConsH, wAppend, wExtend, ownL, dI, dI0, dIx, dInt, dAbs, dLen, dMax2, dMin2, dSum, dSumX, dAll, dAny, dList, dTuple, dAdd, dNeg, dIsN, dNotN, PD.isN, dSl, look, looks, ok, Rz.pd, SD.pd, OD.pd, Rz.cold, Rz.cool, warm, pdsOf, frz, frzAll, leave, argOf, onceB, newBor, isBor, ty_non, ty_bl, ty_int, ty_str, ty_lst, ty_scr, ty_tup, ty_dct, isa, String.reduceBEq, beq_self_eq_true, Bool.false_and, Bool.and_false, Bool.not_true, Bool.or_self, wYes, wCall, backS_0, backS_1, backS_2, backS_3, backS_4, backS_o0, backS_o1, backS_o2, backS_o3, dEq_int, dEq_str, dNeX_int, dNeX_str, List.length_cons, List.length_nil, List.cons_append, List.nil_append, List.replicate, Nat.reduceAdd, Nat.reduceSub, List.getElem?_cons_zero, List.getElem?_cons_succ, Option.bind_some, List.set_cons_zero, List.set_cons_succ, List.map_cons, List.map_nil, List.any_cons, List.any_nil, List.getD_cons_zero, List.getD_cons_succ, true_or, or_true, true_and, and_true, Bool.and_true, Bool.true_and, Bool.or_false, Bool.false_or, Bool.not_false, Bool.not_true, Bool.or_true, Bool.true_or, decide_true, decide_false, wFor, wRng1, wRng2, wLc, wSeqI, items, wEnumX, wCallO, wNever, noOwn, List.all_cons, List.all_nil, wipeS, Bool.and_self, decide_eq_true_eq, atI0a, atI0b, atI0c, atI1b, atI1c, atI2c, wZipX, seqP, wRaise, wIsE, wVal, wMk, wPopAt, wPop, wAug, wTr, dTr, dLtX, dDivmod, wPick, pick, List.filterMap_cons, List.filterMap_nil]
      exact hQ
    · exact h _ _ _ _ hp
end Lk

set_option Elab.async false
set_option linter.all false
set_option maxRecDepth 100000
set_option maxHeartbeats 4000000
set_option exponentiation.threshold 3000
namespace Lk
open PySem L2 DL
theorem shown0 : (PD.int 0).py.shown = ("0" : Str) := by decide +kernel
theorem shown3 : (PD.lst [.int 1, .int 1, .int 2]).py.shown = ("[1, 1, 2]" : Str) := by decide +kernel
/-- what was caught is a BadDevice of 0 -/
theorem cond0_ok {cl : Nat → Addr} {ρ : Sl} {O : On} (h4 : ρ[4]? = some (.dat (.err (cl 0) (.int 0)))) (q : O.nx ρ) :
    wIfS (wOr (wNot (wB (wIsE cl 2 (kb 0) (wVar 4)))) (wB (wBin dNeX (wCB dReprX (wCons (wVal cl 2 (wVar 4)) wNil)) (wC (.str "0"))))) (wRet (wC (.bl false))) wNext O ρ := by
  refine ifs_of false (fun Q hQ => ?_) (fun z => by cases z) (fun _ => q)
  unfold wOr DL.wNot wB
  simp only [wIsE, wVar, h4, look, ok, Rz.pd]
  refine ⟨0, by decide, rfl, ?_⟩
  have e : kb 0 0 = true := rfl
  simp only [e, Bool.not_true]
  unfold wBin wCB wCons wNil
  simp only [wVal, wVar, h4, look, ok, Rz.pd]
  refine ⟨⟨0, by decide, rfl⟩, .inl rfl, ?_⟩
  simp only [looks, pdsOf, Rz.pd, Rz.cool, ok]
  refine repr_is (d := .int 0) (nice_int (by omega)) (by decide) (by decide) ?_
  simp only [shown0, wC, look, Rz.pd, ok]
  rw [dNeX_str (sok_of _) (sok_of _)]
  simpa using hQ
def turn2 (cl : Nat → Addr) : Ws := (wSeq (wSetF 4 (wLam (F__law_heard cl) fun Ξ => (wMake (cl 2) "stages" "text" (F_read_stages cl) Ξ (wCons (wVar 2) wNil))))
  (wIfS (wOr (wNot (wB (wIsE cl 2 (kb 0) (wVar 4)))) (wB (wBin dNeX (wCB dReprX (wCons (wVal cl 2 (wVar 4)) wNil)) (wC (.str "0"))))) (wRet (wC (.bl false))) wNext))
theorem turn2_ok {cl : Nat → Addr} {o : OD} {s4 s5 s6 : SD} {s1 v : PD} {a : String} {O : On} (hv : v.ty = some a) (ha : (a == "str") = false) (h : O.nx [.own o, .dat s1, .dat v, .emp, .dat (.err (cl 0) (.int 0)), s5, s6, .emp, .emp]) : turn2 cl O [.own o, .dat s1, .dat v, .emp, s4, s5, s6, .emp, .emp] := by
  unfold turn2
  refine seq_to (ρ' := [.own o, .dat s1, .dat v, .emp, .dat (.err (cl 0) (.int 0)), s5, s6, .emp, .emp]) (fun N hN => ?_) (cond0_ok rfl h)
  unfold wSetF
  refine heard_bad (v := v) (u := .int 0) (fun Q' hQ => hQ) (fun Q' Ξ hΞ => ?_) ?_
  · rw [e_stages]
    exact readStages_no hv ha hΞ
  · simp only [wSeq, wNext, wIfS, wSetF, wSet, into, wSetIx, wRet, wRetN, wDrop, wB, wBin, wUn, wCB, wCons, wNil, wVar, wC, wIf, wAnd, wOr, DL.wNot, wAndV, wOrV, wNotV, wTup, wLst, wSl, wNoPart, wPart, wChain, wUnp, wgTup, wgCons, wgNil, wName, wIsi, wListRg, wRg1, wRg2, wTupRg, wPuts, puts, Rz.sd, wConsH, wAppend, wExtend, ownL, dI, dI0, dIx, dInt, dAbs, dLen, dMax2, dMin2, dSum, dSumX, dAll, dAny, dList, dTuple, dAdd, dNeg, dIsN, dNotN, PD.isN, dSl, look, looks, ok, Rz.pd, SD.pd, OD.pd, Rz.cold, Rz.cool, warm, pdsOf, frz, frzAll, leave, argOf, onceB, newBor, isBor, ty_non, ty_bl, ty_int, ty_str, ty_lst, ty_scr, ty_tup, ty_dct, isa, String.reduceBEq, beq_self_eq_true, Bool.false_and, Bool.and_false, Bool.not_true, Bool.or_self, wYes, wCall, backS_0, backS_1, backS_2, backS_3, backS_4, backS_o0, backS_o1, backS_o2, backS_o3, dEq_int, dEq_str, dNeX_int, dNeX_str, List.length_cons, List.length_nil, List.cons_append, List.nil_append, List.replicate, Nat.reduceAdd, Nat.reduceSub, List.getElem?_cons_zero, List.getElem?_cons_succ, Option.bind_some, List.set_cons_zero, List.set_cons_succ, List.map_cons, List.map_nil, List.any_cons, List.any_nil, List.getD_cons_zero, List.getD_cons_succ, true_or, or_true, true_and, and_true, Bool.and_true, Bool.true_and, Bool.or_false, Bool.false_or, Bool.not_false, Bool.not_true, Bool.or_true, Bool.true_or, decide_true, decide_false, wFor, wRng1, wRng2, wLc, wSeqI, items, wEnumX, wCallO, wNever, noOwn, List.all_cons, List.all_nil, wipeS, Bool.and_self, decide_eq_true_eq, atI0a, atI0b, atI0c, atI1b, atI1c, atI2c, wZipX, seqP, wRaise, wIsE, wVal, wMk, wPopAt, wPop, wAug, wTr, dTr, dLtX, dDivmod, wPick, pick, List.filterMap_cons, List.filterMap_nil]
    exact hN
def toldG (cl : Nat → Addr) : PD → PD
  | .str t => if t = "stage 0 1\n" then .err (cl 0) (.int 2) else .err (cl 0) (.int 1)
  | d => d
theorem told1 {cl : Nat → Addr} : toldG cl (.str "") = .err (cl 0) (.int 1) := (if_neg (show ¬ ("" : Str) = "stage 0 1\n" by decide +kernel) : (if ("" : Str) = ("stage 0 1\n" : Str) then PD.err (cl 0) (.int 2) else .err (cl 0) (.int 1)) = .err (cl 0) (.int 1))
theorem told2 {cl : Nat → Addr} : toldG cl (.str "\n") = .err (cl 0) (.int 1) := (if_neg (show ¬ ("\n" : Str) = "stage 0 1\n" by decide +kernel) : (if ("\n" : Str) = ("stage 0 1\n" : Str) then PD.err (cl 0) (.int 2) else .err (cl 0) (.int 1)) = .err (cl 0) (.int 1))
theorem told3 {cl : Nat → Addr} : toldG cl (.str "stage 0 1\n") = .err (cl 0) (.int 2) := (if_pos rfl : (if ("stage 0 1\n" : Str) = ("stage 0 1\n" : Str) then PD.err (cl 0) (.int 2) else .err (cl 0) (.int 1)) = .err (cl 0) (.int 2))
def valG : PD → PD
  | .err _ u => u
  | d => d
theorem end_bad {t : Str} (h : t = "" ∨ t = "\n" ∨ t = "stage 0 1\n") : ∃ lines i, Bad lines i ∧ Txt.split t ("\n" : Str) = lines ∧ t.length ≤ 100 ∧ ∀ cl, toldG cl (.str t) = .err (cl 0) (.int ((i + 1 : Nat) : Int)) := by
  have b0 : lineRes ("" : Str) = .non := (bad_row (l := "") List.mem_cons_self).2
  have f0 : 10 ∉ TL.tl ("" : Str) ∧ ("" : Str).length ≤ 60 ∧ LineOk ("" : Str) := line_some (.inr (.inr (.inl rfl)))
  rcases h with rfl | rfl | rfl
  · refine ⟨[("" : Str)], 0, ⟨by decide, fun l hl => by rw [List.mem_singleton.mp hl]; exact f0, by decide, fun j hj => by omega, .inr b0⟩, by decide +kernel, by decide +kernel, fun cl => told1⟩
  · refine ⟨[("" : Str), ""], 0, ⟨by decide, fun l hl => ?_, by decide, fun j hj => by omega, .inr b0⟩, by decide +kernel, by decide +kernel, fun cl => told2⟩
    · simp only [List.mem_cons, List.not_mem_nil, or_false, or_self] at hl
      rw [hl]; exact f0
  · refine ⟨[("stage 0 1" : Str), ""], 1, ⟨by decide, fun l hl => ?_, by decide, fun j hj => ?_, .inr b0⟩, by decide +kernel, by decide +kernel, fun cl => told3⟩
    · simp only [List.mem_cons, List.not_mem_nil, or_false] at hl
      rcases hl with rfl | rfl
      · exact line_some (.inl rfl)
      · exact f0
    · have : j = 0 := by omega
      subst this
      exact ⟨by decide, two_good⟩
theorem law_right_ok {cl : Nat → Addr} : RightOk (F__law_right cl) := by
  intro s Q hp h
  unfold F__law_right mkF
  obtain ⟨o, rfl⟩ := hp.own
  refine ⟨pinned1, ?_⟩
  unfold w__law_right
  refine seq_by (fun ρ => ∃ s s1 s4 s5 s6, Pot 2000 s ∧ ρ = [s, .dat s1, .emp, .emp, s4, s5, s6, .emp, .emp]) (fun N hN => ?_) (fun ρ hρ => ?_)
  · refine ⟨Or.inr ⟨_, rfl⟩, ⟨by decide, by decide⟩, ?_⟩
    have l3 : (rgP 0 (10 : Int).toNat).length = 10 := rfl
    refine forL_upto (fun k ρ => ∃ s s1 s4 s5 s6, Pot (110 * k) s ∧ ρ = [s, s1, .emp, .emp, s4, s5, s6, .emp, .emp] ∧ (0 < k → ∃ d, s1 = .dat d)) _ 0 _ ⟨_, _, _, _, _, hp.mono (by omega), rfl, fun z => absurd z (by omega)⟩ (fun j d ρ N hj hI hN => ?_) (fun ρ hI => ?_)
    · have hjl := (List.getElem?_eq_some_iff.mp hj).1
      rw [l3] at hjl
      rw [Nat.zero_add] at hI hN
      obtain ⟨s, s1, s4, s5, s6, hp, rfl, _⟩ := hI
      refine turn1_ok (s1 := d) hp (by omega) fun s' s4 s5 s6 hp => ?_
      exact hN _ ⟨_, _, _, _, _, hp.mono (by omega), rfl, fun _ => ⟨_, rfl⟩⟩
    · obtain ⟨s, s1, s4, s5, s6, hp, rfl, h1⟩ := hI
      obtain ⟨d, rfl⟩ := h1 (by rw [l3]; omega)
      exact hN _ ⟨_, _, _, _, _, hp.mono (by rw [l3]; omega), rfl⟩
  obtain ⟨s, s1, s4, s5, s6, hp, rfl⟩ := hρ
  obtain ⟨o, rfl⟩ := hp.own
  have z7 : (7 : Nat) ≤ sizeLine := sz (by decide)
  have z3 : (3 : Nat) ≤ sizeLine := sz (by decide)
  have z2 : (2 : Nat) ≤ sizeLine := sz (by decide)
  have z1 : (1 : Nat) ≤ sizeLine := sz (by decide)
  have z0 : (0 : Nat) ≤ sizeLine := sz (by decide)
  refine seq_by (fun ρ => ∃ s2 s4 s5 s6, ρ = [.own o, .dat s1, s2, .emp, s4, s5, s6, .emp, .emp]) (fun N hN => ?_) (fun ρ hρ => ?_)
  · simp only [wFor, wSeqI, z7, z2, z1, z0, wDnew, wSeq, wNext, wIfS, wSetF, wSet, into, wSetIx, wRet, wRetN, wDrop, wB, wBin, wUn, wCB, wCons, wNil, wVar, wC, wIf, wAnd, wOr, DL.wNot, wAndV, wOrV, wNotV, wTup, wLst, wSl, wNoPart, wPart, wChain, wUnp, wgTup, wgCons, wgNil, wName, wIsi, wListRg, wRg1, wRg2, wTupRg, wPuts, puts, Rz.sd, wConsH, wAppend, wExtend, ownL, dI, dI0, dIx, dInt, dAbs, dLen, dMax2, dMin2, dSum, dSumX, dAll, dAny, dList, dTuple, dAdd, dNeg, dIsN, dNotN, PD.isN, dSl, look, looks, ok, Rz.pd, SD.pd, OD.pd, Rz.cold, Rz.cool, warm, pdsOf, frz, frzAll, leave, argOf, onceB, newBor, isBor, ty_non, ty_bl, ty_int, ty_str, ty_lst, ty_scr, ty_tup, ty_dct, isa, String.reduceBEq, beq_self_eq_true, Bool.false_and, Bool.and_false, Bool.not_true, Bool.or_self, wYes, wCall, backS_0, backS_1, backS_2, backS_3, backS_4, backS_o0, backS_o1, backS_o2, backS_o3, dEq_int, dEq_str, dNeX_int, dNeX_str, List.length_cons, List.length_nil, List.cons_append, List.nil_append, List.replicate, Nat.reduceAdd, Nat.reduceSub, List.getElem?_cons_zero, List.getElem?_cons_succ, Option.bind_some, List.set_cons_zero, List.set_cons_succ, List.map_cons, List.map_nil, List.any_cons, List.any_nil, List.getD_cons_zero, List.getD_cons_succ, true_or, or_true, true_and, and_true, Bool.and_true, Bool.true_and, Bool.or_false, Bool.false_or, Bool.not_false, Bool.not_true, Bool.or_true, Bool.true_or, decide_true, decide_false, wFor, wRng1, wRng2, wLc, wSeqI, items, wEnumX, wCallO, wNever, noOwn, List.all_cons, List.all_nil, wipeS, Bool.and_self, decide_eq_true_eq, atI0a, atI0b, atI0c, atI1b, atI1c, atI2c, wZipX, seqP, wRaise, wIsE, wVal, wMk, wPopAt, wPop, wAug, wTr, dTr, dLtX, dDivmod, wPick, pick, List.filterMap_cons, List.filterMap_nil]
    refine ⟨.inr ⟨_, rfl⟩, .inr ⟨_, rfl⟩, .inr ⟨_, rfl⟩, ?_⟩
    refine forL_upto (fun k ρ => ∃ s2 s4 s5 s6, ρ = [.own o, .dat s1, s2, .emp, s4, s5, s6, .emp, .emp]) _ 0 _ ⟨_, _, _, _, rfl⟩ (fun j d ρ N2 hj hI hN2 => ?_) (fun ρ hI => hN _ hI)
    obtain ⟨s2, s4, s5, s6, rfl⟩ := hI
    have hd := List.mem_of_getElem? hj
    obtain ⟨a, hv, ha⟩ : ∃ a, d.ty = some a ∧ (a == "str") = false := by
      simp only [List.mem_cons, List.not_mem_nil, or_false] at hd
      rcases hd with rfl | rfl | rfl | rfl | rfl | rfl | rfl <;> exact ⟨_, rfl, by decide⟩
    exact turn2_ok hv ha (hN2 _ ⟨_, _, _, _, rfl⟩)
  obtain ⟨s2, s4, s5, s6, rfl⟩ := hρ
  refine seq_to (ρ' := [.own o, .dat s1, s2, .dat (.lst [.err (cl 0) (.int 1), .err (cl 0) (.int 1), .err (cl 0) (.int 2)]), s4, s5, s6, .emp, .emp]) (fun N hN => ?_) ?_
  · simp only [wSetF, wLc, wSeqI, z3, wSeq, wNext, wIfS, wSetF, wSet, into, wSetIx, wRet, wRetN, wDrop, wB, wBin, wUn, wCB, wCons, wNil, wVar, wC, wIf, wAnd, wOr, DL.wNot, wAndV, wOrV, wNotV, wTup, wLst, wSl, wNoPart, wPart, wChain, wUnp, wgTup, wgCons, wgNil, wName, wIsi, wListRg, wRg1, wRg2, wTupRg, wPuts, puts, Rz.sd, wConsH, wAppend, wExtend, ownL, dI, dI0, dIx, dInt, dAbs, dLen, dMax2, dMin2, dSum, dSumX, dAll, dAny, dList, dTuple, dAdd, dNeg, dIsN, dNotN, PD.isN, dSl, look, looks, ok, Rz.pd, SD.pd, OD.pd, Rz.cold, Rz.cool, warm, pdsOf, frz, frzAll, leave, argOf, onceB, newBor, isBor, ty_non, ty_bl, ty_int, ty_str, ty_lst, ty_scr, ty_tup, ty_dct, isa, String.reduceBEq, beq_self_eq_true, Bool.false_and, Bool.and_false, Bool.not_true, Bool.or_self, wYes, wCall, backS_0, backS_1, backS_2, backS_3, backS_4, backS_o0, backS_o1, backS_o2, backS_o3, dEq_int, dEq_str, dNeX_int, dNeX_str, List.length_cons, List.length_nil, List.cons_append, List.nil_append, List.replicate, Nat.reduceAdd, Nat.reduceSub, List.getElem?_cons_zero, List.getElem?_cons_succ, Option.bind_some, List.set_cons_zero, List.set_cons_succ, List.map_cons, List.map_nil, List.any_cons, List.any_nil, List.getD_cons_zero, List.getD_cons_succ, true_or, or_true, true_and, and_true, Bool.and_true, Bool.true_and, Bool.or_false, Bool.false_or, Bool.not_false, Bool.not_true, Bool.or_true, Bool.true_or, decide_true, decide_false, wFor, wRng1, wRng2, wLc, wSeqI, items, wEnumX, wCallO, wNever, noOwn, List.all_cons, List.all_nil, wipeS, Bool.and_self, decide_eq_true_eq, atI0a, atI0b, atI0c, atI1b, atI1c, atI2c, wZipX, seqP, wRaise, wIsE, wVal, wMk, wPopAt, wPop, wAug, wTr, dTr, dLtX, dDivmod, wPick, pick, List.filterMap_cons, List.filterMap_nil]
    refine ⟨.inr ⟨_, rfl⟩, compL_map (v := 7) (g := toldG cl) rfl (by decide) (fun d hd Q' hQ => ?_) ?_⟩
    · obtain ⟨t, rfl, ht⟩ : ∃ t : Str, d = .str t ∧ (t = "" ∨ t = "\n" ∨ t = "stage 0 1\n") := by
        simp only [List.mem_cons, List.not_mem_nil, or_false] at hd
        rcases hd with rfl | rfl | rfl
        · exact ⟨_, rfl, .inl rfl⟩
        · exact ⟨_, rfl, .inr (.inl rfl)⟩
        · exact ⟨_, rfl, .inr (.inr rfl)⟩
      obtain ⟨lines, i, hb, hsp, hz, hg⟩ := end_bad ht
      rw [hg cl] at hQ
      exact heard_bad (v := .str t) (u := .int ((i + 1 : Nat) : Int)) (fun Q' hQ => hQ) (fun Q' Ξ hΞ => stages_bad hb hsp (by omega) hΞ) hQ
    · have e : [PD.str (Str.ofString ""), .str (Str.ofString "\n"), .str (Str.ofString "stage 0 1\n")].map (toldG cl) = [.err (cl 0) (.int 1), .err (cl 0) (.int 1), .err (cl 0) (.int 2)] := by
        show [toldG cl (.str (Str.ofString "")), toldG cl (.str (Str.ofString "\n")), toldG cl (.str (Str.ofString "stage 0 1\n"))] = _
        rw [told1, told2, told3]
      rw [e]
      simp only [restore, wSeq, wNext, wIfS, wSetF, wSet, into, wSetIx, wRet, wRetN, wDrop, wB, wBin, wUn, wCB, wCons, wNil, wVar, wC, wIf, wAnd, wOr, DL.wNot, wAndV, wOrV, wNotV, wTup, wLst, wSl, wNoPart, wPart, wChain, wUnp, wgTup, wgCons, wgNil, wName, wIsi, wListRg, wRg1, wRg2, wTupRg, wPuts, puts, Rz.sd, wConsH, wAppend, wExtend, ownL, dI, dI0, dIx, dInt, dAbs, dLen, dMax2, dMin2, dSum, dSumX, dAll, dAny, dList, dTuple, dAdd, dNeg, dIsN, dNotN, PD.isN, dSl, look, looks, ok, Rz.pd, SD.pd, OD.pd, Rz.cold, Rz.cool, warm, pdsOf, frz, frzAll, leave, argOf, onceB, newBor, isBor, ty_non, ty_bl, ty_int, ty_str, ty_lst, ty_scr, ty_tup, ty_dct, isa, String.reduceBEq, beq_self_eq_true, Bool.false_and, Bool.and_false, Bool.not_true, Bool.or_self, wYes, wCall, backS_0, backS_1, backS_2, backS_3, backS_4, backS_o0, backS_o1, backS_o2, backS_o3, dEq_int, dEq_str, dNeX_int, dNeX_str, List.length_cons, List.length_nil, List.cons_append, List.nil_append, List.replicate, Nat.reduceAdd, Nat.reduceSub, List.getElem?_cons_zero, List.getElem?_cons_succ, Option.bind_some, List.set_cons_zero, List.set_cons_succ, List.map_cons, List.map_nil, List.any_cons, List.any_nil, List.getD_cons_zero, List.getD_cons_succ, true_or, or_true, true_and, and_true, Bool.and_true, Bool.true_and, Bool.or_false, Bool.false_or, Bool.not_false, Bool.not_true, Bool.or_true, Bool.true_or, decide_true, decide_false, wFor, wRng1, wRng2, wLc, wSeqI, items, wEnumX, wCallO, wNever, noOwn, List.all_cons, List.all_nil, wipeS, Bool.and_self, decide_eq_true_eq, atI0a, atI0b, atI0c, atI1b, atI1c, atI2c, wZipX, seqP, wRaise, wIsE, wVal, wMk, wPopAt, wPop, wAug, wTr, dTr, dLtX, dDivmod, wPick, pick, List.filterMap_cons, List.filterMap_nil]
      exact ⟨.inr ⟨_, rfl⟩, hN⟩
  simp only [wSeq, wNext, wIfS, wSetF, wSet, into, wSetIx, wRet, wRetN, wDrop, wB, wBin, wUn, wCB, wCons, wNil, wVar, wC, wIf, wAnd, wOr, DL.wNot, wAndV, wOrV, wNotV, wTup, wLst, wSl, wNoPart, wPart, wChain, wUnp, wgTup, wgCons, wgNil, wName, wIsi, wListRg, wRg1, wRg2, wTupRg, wPuts, puts, Rz.sd, wConsH, wAppend, wExtend, ownL, dI, dI0, dIx, dInt, dAbs, dLen, dMax2, dMin2, dSum, dSumX, dAll, dAny, dList, dTuple, dAdd, dNeg, dIsN, dNotN, PD.isN, dSl, look, looks, ok, Rz.pd, SD.pd, OD.pd, Rz.cold, Rz.cool, warm, pdsOf, frz, frzAll, leave, argOf, onceB, newBor, isBor, ty_non, ty_bl, ty_int, ty_str, ty_lst, ty_scr, ty_tup, ty_dct, isa, String.reduceBEq, beq_self_eq_true, Bool.false_and, Bool.and_false, Bool.not_true, Bool.or_self, wYes, wCall, backS_0, backS_1, backS_2, backS_3, backS_4, backS_o0, backS_o1, backS_o2, backS_o3, dEq_int, dEq_str, dNeX_int, dNeX_str, List.length_cons, List.length_nil, List.cons_append, List.nil_append, List.replicate, Nat.reduceAdd, Nat.reduceSub, List.getElem?_cons_zero, List.getElem?_cons_succ, Option.bind_some, List.set_cons_zero, List.set_cons_succ, List.map_cons, List.map_nil, List.any_cons, List.any_nil, List.getD_cons_zero, List.getD_cons_succ, true_or, or_true, true_and, and_true, Bool.and_true, Bool.true_and, Bool.or_false, Bool.false_or, Bool.not_false, Bool.not_true, Bool.or_true, Bool.true_or, decide_true, decide_false, wFor, wRng1, wRng2, wLc, wSeqI, items, wEnumX, wCallO, wNever, noOwn, List.all_cons, List.all_nil, wipeS, Bool.and_self, decide_eq_true_eq, atI0a, atI0b, atI0c, atI1b, atI1c, atI2c, wZipX, seqP, wRaise, wIsE, wVal, wMk, wPopAt, wPop, wAug, wTr, dTr, dLtX, dDivmod, wPick, pick, List.filterMap_cons, List.filterMap_nil]
  have errs : ∀ d ∈ [PD.err (cl 0) (PD.int 1), PD.err (cl 0) (PD.int 1), PD.err (cl 0) (PD.int 2)], ∃ u, d = .err (cl 0) u := fun d hd => by
    simp only [List.mem_cons, List.not_mem_nil, or_false] at hd
    rcases hd with rfl | rfl | rfl <;> exact ⟨_, rfl⟩
  refine compL_map (v := 8) (g := fun _ => .bl true) rfl (show 3 < 100000 by decide) (fun d hd Q' hQ => ?_) ?_
  · obtain ⟨u, rfl⟩ := errs d hd
    simp only [wIsE, wSeq, wNext, wIfS, wSetF, wSet, into, wSetIx, wRet, wRetN, wDrop, wB, wBin, wUn, wCB, wCons, wNil, wVar, wC, wIf, wAnd, wOr, DL.wNot, wAndV, wOrV, wNotV, wTup, wLst, wSl, wNoPart, wPart, wChain, wUnp, wgTup, wgCons, wgNil, wName, wIsi, wListRg, wRg1, wRg2, wTupRg, wPuts, puts, Rz.sd, wConsH, wAppend, wExtend, ownL, dI, dI0, dIx, dInt, dAbs, dLen, dMax2, dMin2, dSum, dSumX, dAll, dAny, dList, dTuple, dAdd, dNeg, dIsN, dNotN, PD.isN, dSl, look, looks, ok, Rz.pd, SD.pd, OD.pd, Rz.cold, Rz.cool, warm, pdsOf, frz, frzAll, leave, argOf, onceB, newBor, isBor, ty_non, ty_bl, ty_int, ty_str, ty_lst, ty_scr, ty_tup, ty_dct, isa, String.reduceBEq, beq_self_eq_true, Bool.false_and, Bool.and_false, Bool.not_true, Bool.or_self, wYes, wCall, backS_0, backS_1, backS_2, backS_3, backS_4, backS_o0, backS_o1, backS_o2, backS_o3, dEq_int, dEq_str, dNeX_int, dNeX_str, List.length_cons, List.length_nil, List.cons_append, List.nil_append, List.replicate, Nat.reduceAdd, Nat.reduceSub, List.getElem?_cons_zero, List.getElem?_cons_succ, Option.bind_some, List.set_cons_zero, List.set_cons_succ, List.map_cons, List.map_nil, List.any_cons, List.any_nil, List.getD_cons_zero, List.getD_cons_succ, true_or, or_true, true_and, and_true, Bool.and_true, Bool.true_and, Bool.or_false, Bool.false_or, Bool.not_false, Bool.not_true, Bool.or_true, Bool.true_or, decide_true, decide_false, wFor, wRng1, wRng2, wLc, wSeqI, items, wEnumX, wCallO, wNever, noOwn, List.all_cons, List.all_nil, wipeS, Bool.and_self, decide_eq_true_eq, atI0a, atI0b, atI0c, atI1b, atI1c, atI2c, wZipX, seqP, wRaise, wIsE, wVal, wMk, wPopAt, wPop, wAug, wTr, dTr, dLtX, dDivmod, wPick, pick, List.filterMap_cons, List.filterMap_nil]
    exact ⟨0, by decide, rfl, hQ⟩
  simp only [List.map_cons, List.map_nil, bools, List.all_cons, List.all_nil, restore, wSeq, wNext, wIfS, wSetF, wSet, into, wSetIx, wRet, wRetN, wDrop, wB, wBin, wUn, wCB, wCons, wNil, wVar, wC, wIf, wAnd, wOr, DL.wNot, wAndV, wOrV, wNotV, wTup, wLst, wSl, wNoPart, wPart, wChain, wUnp, wgTup, wgCons, wgNil, wName, wIsi, wListRg, wRg1, wRg2, wTupRg, wPuts, puts, Rz.sd, wConsH, wAppend, wExtend, ownL, dI, dI0, dIx, dInt, dAbs, dLen, dMax2, dMin2, dSum, dSumX, dAll, dAny, dList, dTuple, dAdd, dNeg, dIsN, dNotN, PD.isN, dSl, look, looks, ok, Rz.pd, SD.pd, OD.pd, Rz.cold, Rz.cool, warm, pdsOf, frz, frzAll, leave, argOf, onceB, newBor, isBor, ty_non, ty_bl, ty_int, ty_str, ty_lst, ty_scr, ty_tup, ty_dct, isa, String.reduceBEq, beq_self_eq_true, Bool.false_and, Bool.and_false, Bool.not_true, Bool.or_self, wYes, wCall, backS_0, backS_1, backS_2, backS_3, backS_4, backS_o0, backS_o1, backS_o2, backS_o3, dEq_int, dEq_str, dNeX_int, dNeX_str, List.length_cons, List.length_nil, List.cons_append, List.nil_append, List.replicate, Nat.reduceAdd, Nat.reduceSub, List.getElem?_cons_zero, List.getElem?_cons_succ, Option.bind_some, List.set_cons_zero, List.set_cons_succ, List.map_cons, List.map_nil, List.any_cons, List.any_nil, List.getD_cons_zero, List.getD_cons_succ, true_or, or_true, true_and, and_true, Bool.and_true, Bool.true_and, Bool.or_false, Bool.false_or, Bool.not_false, Bool.not_true, Bool.or_true, Bool.true_or, decide_true, decide_false, wFor, wRng1, wRng2, wLc, wSeqI, items, wEnumX, wCallO, wNever, noOwn, List.all_cons, List.all_nil, wipeS, Bool.and_self, decide_eq_true_eq, atI0a, atI0b, atI0c, atI1b, atI1c, atI2c, wZipX, seqP, wRaise, wIsE, wVal, wMk, wPopAt, wPop, wAug, wTr, dTr, dLtX, dDivmod, wPick, pick, List.filterMap_cons, List.filterMap_nil]
  have et : id true = true := rfl
  simp only [et]
  refine ⟨.inr ⟨_, rfl⟩, ?_⟩
  refine compL_map (v := 8) (g := valG) rfl (show 3 < 100000 by decide) (fun d hd Q' hQ => ?_) ?_
  · obtain ⟨u, rfl⟩ := errs d hd
    simp only [wVal, wSeq, wNext, wIfS, wSetF, wSet, into, wSetIx, wRet, wRetN, wDrop, wB, wBin, wUn, wCB, wCons, wNil, wVar, wC, wIf, wAnd, wOr, DL.wNot, wAndV, wOrV, wNotV, wTup, wLst, wSl, wNoPart, wPart, wChain, wUnp, wgTup, wgCons, wgNil, wName, wIsi, wListRg, wRg1, wRg2, wTupRg, wPuts, puts, Rz.sd, wConsH, wAppend, wExtend, ownL, dI, dI0, dIx, dInt, dAbs, dLen, dMax2, dMin2, dSum, dSumX, dAll, dAny, dList, dTuple, dAdd, dNeg, dIsN, dNotN, PD.isN, dSl, look, looks, ok, Rz.pd, SD.pd, OD.pd, Rz.cold, Rz.cool, warm, pdsOf, frz, frzAll, leave, argOf, onceB, newBor, isBor, ty_non, ty_bl, ty_int, ty_str, ty_lst, ty_scr, ty_tup, ty_dct, isa, String.reduceBEq, beq_self_eq_true, Bool.false_and, Bool.and_false, Bool.not_true, Bool.or_self, wYes, wCall, backS_0, backS_1, backS_2, backS_3, backS_4, backS_o0, backS_o1, backS_o2, backS_o3, dEq_int, dEq_str, dNeX_int, dNeX_str, List.length_cons, List.length_nil, List.cons_append, List.nil_append, List.replicate, Nat.reduceAdd, Nat.reduceSub, List.getElem?_cons_zero, List.getElem?_cons_succ, Option.bind_some, List.set_cons_zero, List.set_cons_succ, List.map_cons, List.map_nil, List.any_cons, List.any_nil, List.getD_cons_zero, List.getD_cons_succ, true_or, or_true, true_and, and_true, Bool.and_true, Bool.true_and, Bool.or_false, Bool.false_or, Bool.not_false, Bool.not_true, Bool.or_true, Bool.true_or, decide_true, decide_false, wFor, wRng1, wRng2, wLc, wSeqI, items, wEnumX, wCallO, wNever, noOwn, List.all_cons, List.all_nil, wipeS, Bool.and_self, decide_eq_true_eq, atI0a, atI0b, atI0c, atI1b, atI1c, atI2c, wZipX, seqP, wRaise, wIsE, wVal, wMk, wPopAt, wPop, wAug, wTr, dTr, dLtX, dDivmod, wPick, pick, List.filterMap_cons, List.filterMap_nil]
    exact ⟨⟨0, by decide, rfl⟩, hQ⟩
  simp only [List.map_cons, List.map_nil, valG, restore, wSeq, wNext, wIfS, wSetF, wSet, into, wSetIx, wRet, wRetN, wDrop, wB, wBin, wUn, wCB, wCons, wNil, wVar, wC, wIf, wAnd, wOr, DL.wNot, wAndV, wOrV, wNotV, wTup, wLst, wSl, wNoPart, wPart, wChain, wUnp, wgTup, wgCons, wgNil, wName, wIsi, wListRg, wRg1, wRg2, wTupRg, wPuts, puts, Rz.sd, wConsH, wAppend, wExtend, ownL, dI, dI0, dIx, dInt, dAbs, dLen, dMax2, dMin2, dSum, dSumX, dAll, dAny, dList, dTuple, dAdd, dNeg, dIsN, dNotN, PD.isN, dSl, look, looks, ok, Rz.pd, SD.pd, OD.pd, Rz.cold, Rz.cool, warm, pdsOf, frz, frzAll, leave, argOf, onceB, newBor, isBor, ty_non, ty_bl, ty_int, ty_str, ty_lst, ty_scr, ty_tup, ty_dct, isa, String.reduceBEq, beq_self_eq_true, Bool.false_and, Bool.and_false, Bool.not_true, Bool.or_self, wYes, wCall, backS_0, backS_1, backS_2, backS_3, backS_4, backS_o0, backS_o1, backS_o2, backS_o3, dEq_int, dEq_str, dNeX_int, dNeX_str, List.length_cons, List.length_nil, List.cons_append, List.nil_append, List.replicate, Nat.reduceAdd, Nat.reduceSub, List.getElem?_cons_zero, List.getElem?_cons_succ, Option.bind_some, List.set_cons_zero, List.set_cons_succ, List.map_cons, List.map_nil, List.any_cons, List.any_nil, List.getD_cons_zero, List.getD_cons_succ, true_or, or_true, true_and, and_true, Bool.and_true, Bool.true_and, Bool.or_false, Bool.false_or, Bool.not_false, Bool.not_true, Bool.or_true, Bool.true_or, decide_true, decide_false, wFor, wRng1, wRng2, wLc, wSeqI, items, wEnumX, wCallO, wNever, noOwn, List.all_cons, List.all_nil, wipeS, Bool.and_self, decide_eq_true_eq, atI0a, atI0b, atI0c, atI1b, atI1c, atI2c, wZipX, seqP, wRaise, wIsE, wVal, wMk, wPopAt, wPop, wAug, wTr, dTr, dLtX, dDivmod, wPick, pick, List.filterMap_cons, List.filterMap_nil]
  refine ⟨.inr ⟨_, rfl⟩, repr_is (d := .lst [.int 1, .int 1, .int 2]) (by decide +kernel) (by decide +kernel) (by decide +kernel) ?_⟩
  simp only [shown3, dEq_str (sok_of _) (sok_of _), decide_true, wSeq, wNext, wIfS, wSetF, wSet, into, wSetIx, wRet, wRetN, wDrop, wB, wBin, wUn, wCB, wCons, wNil, wVar, wC, wIf, wAnd, wOr, DL.wNot, wAndV, wOrV, wNotV, wTup, wLst, wSl, wNoPart, wPart, wChain, wUnp, wgTup, wgCons, wgNil, wName, wIsi, wListRg, wRg1, wRg2, wTupRg, wPuts, puts, Rz.sd, wConsH, wAppend, wExtend, ownL, dI, dI0, dIx, dInt, dAbs, dLen, dMax2, dMin2, dSum, dSumX, dAll, dAny, dList, dTuple, dAdd, dNeg, dIsN, dNotN, PD.isN, dSl, look, looks, ok, Rz.pd, SD.pd, OD.pd, Rz.cold, Rz.cool, warm, pdsOf, frz, frzAll, leave, argOf, onceB, newBor, isBor, ty_non, ty_bl, ty_int, ty_str, ty_lst, ty_scr, ty_tup, ty_dct, isa, String.reduceBEq, beq_self_eq_true, Bool.false_and, Bool.and_false, Bool.not_true, Bool.or_self, wYes, wCall, backS_0, backS_1, backS_2, backS_3, backS_4, backS_o0, backS_o1, backS_o2, backS_o3, dEq_int, dEq_str, dNeX_int, dNeX_str, List.length_cons, List.length_nil, List.cons_append, List.nil_append, List.replicate, Nat.reduceAdd, Nat.reduceSub, List.getElem?_cons_zero, List.getElem?_cons_succ, Option.bind_some, List.set_cons_zero, List.set_cons_succ, List.map_cons, List.map_nil, List.any_cons, List.any_nil, List.getD_cons_zero, List.getD_cons_succ, true_or, or_true, true_and, and_true, Bool.and_true, Bool.true_and, Bool.or_false, Bool.false_or, Bool.not_false, Bool.not_true, Bool.or_true, Bool.true_or, decide_true, decide_false, wFor, wRng1, wRng2, wLc, wSeqI, items, wEnumX, wCallO, wNever, noOwn, List.all_cons, List.all_nil, wipeS, Bool.and_self, decide_eq_true_eq, atI0a, atI0b, atI0c, atI1b, atI1c, atI2c, wZipX, seqP, wRaise, wIsE, wVal, wMk, wPopAt, wPop, wAug, wTr, dTr, dLtX, dDivmod, wPick, pick, List.filterMap_cons, List.filterMap_nil]
  exact h _
theorem pc : DL.PC 1063 480 73133 8093 479 := ⟨by decide, by decide, by decide, by decide, by decide⟩
theorem pure_ok {cl : Nat → Addr} {ns : List Int} : F_law cl [.dat (.scr ns)] (fun r _ => r = .dat (.bl true)) noX := by
  show mkF (pin [0]) 2 (fun _ => wLawA 3 (FPot 1063 480 73133 8093 479) (F__law_right cl)) _ _ _
  exact lawA_ok pc ⟨by decide, by decide⟩ law_right_ok
end Lk

set_option Elab.async false
set_option linter.all false
set_option maxRecDepth 100000
set_option maxHeartbeats 4000000
namespace Lk
open PySem L2 DL
theorem tab_by {K : PySem.W.Frag} {x nm ql : Str} {f c P : Addr} {oc kV doc pm ct oc2 : Value} {od an od2 : Option Addr} {osl sl2 : Array (Option Value)} {ag : Arguments} {bd : List Stmt} {sp : Scope} {dv : Value} {vs : Array Value}
    (h1 : PySem.W.nsIn K mainGlobals x = some (some (.ref f))) (h2 : K.lookup f = some ⟨oc, od, .func (PySem.W.fnOf nm ql ag bd sp dv kV doc pm an (.ref c) ct), osl⟩)
    (h3 : K.lookup c = some ⟨oc2, od2, .fields vs, sl2⟩) (h4 : vs[11]? = some (.ref P)) : PySem.W.tabIn K x = some (c, P) := by
  unfold PySem.W.tabIn
  rw [h1]; dsimp only; rw [h2]; dsimp only [PySem.W.fnOf]; rw [h3]; dsimp only; rw [h4]
theorem hu_of {ls : List Lm} {p0 : Lm} (nd : (ls.map (·.P)).Nodup) (h0 : p0 ∈ ls) : ∀ p ∈ ls.map (fun p => (p.P, p.q)), p.1 = p0.P → p.2 = p0.q := fun p hp e => by
  obtain ⟨r, hr, rfl⟩ := List.mem_map.mp hp
  have a := find_one nd hr
  have b := find_one nd h0
  have e' : r.P = p0.P := e
  rw [e', b] at a
  exact congrArg (·.q) (Option.some.inj a).symm
def exmB (K : PySem.W.Frag) (Cs : List Addr) (c : Addr) : Bool := Cs.all fun C => decide (PySem.W.exmOne K (.ref C) (.ref c) = some true)
theorem exmB_ok {K : PySem.W.Frag} {Cs : List Addr} {c : Addr} (h : exmB K Cs c = true) (i : Nat) (hi : i < Cs.length) : PySem.W.exmOne K (.ref (Cs.getD i 0)) (.ref c) = some true := by
  rw [List.getD_eq_getElem?_getD, List.getElem?_eq_getElem hi]
  exact of_decide_eq_true (List.all_eq_true.mp h _ (List.getElem_mem hi))
def clOf (Cs : List Addr) : Nat → Addr := fun i => Cs.getD i 0
def clD (a : Addr) : Nat → Addr := fun _ => a
theorem clOf_app {Cs Ds : List Addr} {i : Nat} (h : i < Cs.length) : clOf (Cs ++ Ds) i = Cs.getD i 0 := by
  unfold clOf
  rw [List.getD_eq_getElem?_getD, List.getD_eq_getElem?_getD, List.getElem?_append_left h]
def s_init : Stmt := match top 1 with
  | .ClassDef _ _ _ b _ _ _ _ _ _ _ => b.getD 0 (.Pass ⟨0, 0, 0, 0⟩)
  | s => s
theorem sc_init : FnScope ["self", "value"] ["self", "value"] (defScope s_init) := ⟨rfl, rfl, rfl, by decide +kernel, rfl, by decide +kernel, by decide +kernel⟩
theorem ok_init {P : Program} {w : World} {K : PySem.W.Frag} {mg : Str → Option Value} {base : Heap} {q : Str} {fI : Addr} {fd : FuncData} (F : Fun K "__init__" q s_init fI fd) : FnOk P w K mg base L2.CX0 1 fI fd ["self", "value"] (spErr K) := by
  refine F.ok sc_init (fun vs H Q E h => ?_) (fun cdv A outer s H vs Q E hr h => ⟨tOst K "value" (tVar 0) (tVar 1), pss_one (ps_ost (pv 0) (pv 1)), ?_⟩)
  · obtain ⟨a, C, v, rfl, _⟩ := h; rfl
  · obtain ⟨a, C, v, rfl, h1, h2, h3, h4⟩ := h
    exact ⟨v, rfl, .ref a, rfl, a, C, rfl, h1, h2, .inl ⟨h3, fun dx hd hne => h4 dx hd hne⟩⟩

def lsOf (cc__law_right pt__law_right : Addr) : List Lm := [⟨"_law_right", cc__law_right, pt__law_right, (("_law_right" : Str) ++ ".<locals>.") ++ "<lambda>"⟩]
theorem all_mk {P : Program} {w : World} {K : PySem.W.Frag} {h : Heap} {mg : Str → Option Value} {fI C0 C1 : Addr} {odI anI : Option Addr} {slI : Array (Option Value)} {ocI kVI dcI pmI cdI ctI : Value} {KDevice fI_Device : Addr} {odI_Device anI_Device : Option Addr} {slI_Device : Array (Option Value)} {ocI_Device kVI_Device dcI_Device pmI_Device cdI_Device ctI_Device : Value} {t_FEWEST_LANES : _} {t_MOST_FIGURES : _} {t_MOST_LANES : _} {t_MOST_LENGTH : _} {t_MOST_STAGES : _} {f0 : Addr} {od0 an0 : Option Addr} {sl0 : Array (Option Value)} {oc0 kV0 dc0 pm0 cd0 ct0 : Value} {f1 : Addr} {od1 an1 : Option Addr} {sl1 : Array (Option Value)} {oc1 kV1 dc1 pm1 cd1 ct1 : Value} {f2 : Addr} {od2 an2 : Option Addr} {sl2 : Array (Option Value)} {oc2 kV2 dc2 pm2 cd2 ct2 : Value} {f3 : Addr} {od3 an3 : Option Addr} {sl3 : Array (Option Value)} {oc3 kV3 dc3 pm3 cd3 ct3 : Value} {f4 : Addr} {od4 an4 : Option Addr} {sl4 : Array (Option Value)} {oc4 kV4 dc4 pm4 cd4 ct4 : Value} {f5 : Addr} {od5 an5 : Option Addr} {sl5 : Array (Option Value)} {oc5 kV5 dc5 pm5 cd5 ct5 : Value} {f6 : Addr} {od6 an6 : Option Addr} {sl6 : Array (Option Value)} {oc6 kV6 dc6 pm6 cd6 ct6 : Value} {f7 : Addr} {od7 an7 : Option Addr} {sl7 : Array (Option Value)} {oc7 kV7 dc7 pm7 cd7 ct7 : Value} {f8 : Addr} {od8 an8 : Option Addr} {sl8 : Array (Option Value)} {oc8 kV8 dc8 pm8 cd8 ct8 : Value} {f9 : Addr} {od9 an9 : Option Addr} {sl9 : Array (Option Value)} {oc9 kV9 dc9 pm9 cd9 ct9 : Value} {f10 : Addr} {od10 an10 : Option Addr} {sl10 : Array (Option Value)} {oc10 kV10 dc10 pm10 cd10 ct10 : Value} {f11 : Addr} {od11 an11 : Option Addr} {sl11 : Array (Option Value)} {oc11 kV11 dc11 pm11 cd11 ct11 : Value} {f12 : Addr} {od12 an12 : Option Addr} {sl12 : Array (Option Value)} {oc12 kV12 dc12 pm12 cd12 ct12 : Value} {f13 : Addr} {od13 an13 : Option Addr} {sl13 : Array (Option Value)} {oc13 kV13 dc13 pm13 cd13 ct13 : Value} {f14 : Addr} {od14 an14 : Option Addr} {sl14 : Array (Option Value)} {oc14 kV14 dc14 pm14 cd14 ct14 : Value} {f15 : Addr} {od15 an15 : Option Addr} {sl15 : Array (Option Value)} {oc15 kV15 dc15 pm15  ct15 : Value} {f16 : Addr} {od16 an16 : Option Addr} {sl16 : Array (Option Value)} {oc16 kV16 dc16 pm16 cd16 ct16 : Value} {f17 : Addr} {od17 an17 : Option Addr} {sl17 : Array (Option Value)} {oc17 kV17 dc17 pm17 cd17 ct17 : Value} {f18 : Addr} {od18 an18 : Option Addr} {sl18 : Array (Option Value)} {oc18 kV18 dc18 pm18 cd18 ct18 : Value} {f19 : Addr} {od19 an19 : Option Addr} {sl19 : Array (Option Value)} {oc19 kV19 dc19 pm19 cd19 ct19 : Value} {cc__law_right pt__law_right : Addr} (X : K.In h) (Gn : h.Ns mainGlobals mg)
    (a_BadDevice : PySem.W.nsIn K mainGlobals "BadDevice" = some (some (.ref C0)))
    (a_LoopError : PySem.W.nsIn K mainGlobals "LoopError" = some (some (.ref C1)))
    (aI : PySem.W.findIn K (.ref C1) "__init__" = some (some (.ref fI)))
    (hE : errsB K [C0, C1] fI kb = true)
    (hX : exmB K [C0, C1] C1 = true)
    (lI : K.lookup fI = some ⟨ocI, odI, .func (PySem.W.fnOf "__init__" "LoopError.__init__" (defArgs s_init) (defBody s_init) (defScope s_init) .none kVI dcI pmI anI cdI ctI), slI⟩) (cI : PySem.W.codeIn K cdI "LoopError.__init__" = true) (kI : PySem.W.keepIn K (.ref fI) = true)
    (a_Device : PySem.W.nsIn K mainGlobals "Device" = some (some (.ref KDevice)))
    (m2_Device : PySem.W.findIn K (.ref KDevice) "__init__" = some (some (.ref fI_Device)))
    (m1_Device : PySem.W.makesIn K KDevice = true)
    (m3_Device : PySem.W.isFn K (.ref fI_Device) = true)
    (m4_Device : PySem.W.keepIn K (.ref KDevice) = true)
    (g1_Device : PySem.W.plainGet K KDevice Str.empty = true)
    (g2_Device : PySem.W.hasDictIn K KDevice = true)
    (g3_Device : PySem.W.plainOver K KDevice = true)
    (g4_Device : PySem.W.findIn K (.ref KDevice) "__setattr__" = some (some (.builtin "object.__setattr__")))
    (n1_Device : PySem.W.findIn K (.ref KDevice) "stages" = some none)
    (n2_Device : PySem.W.findIn K (.ref KDevice) "text" = some none)
    (lI_Device : K.lookup fI_Device = some ⟨ocI_Device, odI_Device, .func (PySem.W.fnOf "__init__" "Device.__init__" (defArgs s_Device__init) (defBody s_Device__init) (defScope s_Device__init) .none kVI_Device dcI_Device pmI_Device anI_Device cdI_Device ctI_Device), slI_Device⟩)
    (cI_Device : PySem.W.codeIn K cdI_Device "Device.__init__" = true)
    (b_abs : PySem.W.nsIn K mainGlobals "abs" = some none)
    (b_all : PySem.W.nsIn K mainGlobals "all" = some none)
    (b_bool : PySem.W.nsIn K mainGlobals "bool" = some none)
    (b_enumerate : PySem.W.nsIn K mainGlobals "enumerate" = some none)
    (b_int : PySem.W.nsIn K mainGlobals "int" = some none)
    (b_isinstance : PySem.W.nsIn K mainGlobals "isinstance" = some none)
    (b_len : PySem.W.nsIn K mainGlobals "len" = some none)
    (b_list : PySem.W.nsIn K mainGlobals "list" = some none)
    (b_max : PySem.W.nsIn K mainGlobals "max" = some none)
    (b_min : PySem.W.nsIn K mainGlobals "min" = some none)
    (b_range : PySem.W.nsIn K mainGlobals "range" = some none)
    (b_repr : PySem.W.nsIn K mainGlobals "repr" = some none)
    (b_set : PySem.W.nsIn K mainGlobals "set" = some none)
    (b_str : PySem.W.nsIn K mainGlobals "str" = some none)
    (b_sum : PySem.W.nsIn K mainGlobals "sum" = some none)
    (b_tuple : PySem.W.nsIn K mainGlobals "tuple" = some none)
    (v_FEWEST_LANES : PySem.W.nsIn K mainGlobals "FEWEST_LANES" = some (some (.int 2 t_FEWEST_LANES)))
    (v_MOST_FIGURES : PySem.W.nsIn K mainGlobals "MOST_FIGURES" = some (some (.int 9 t_MOST_FIGURES)))
    (v_MOST_LANES : PySem.W.nsIn K mainGlobals "MOST_LANES" = some (some (.int 4 t_MOST_LANES)))
    (v_MOST_LENGTH : PySem.W.nsIn K mainGlobals "MOST_LENGTH" = some (some (.int 1000000 t_MOST_LENGTH)))
    (v_MOST_STAGES : PySem.W.nsIn K mainGlobals "MOST_STAGES" = some (some (.int 6 t_MOST_STAGES)))
    (a_law_take : PySem.W.nsIn K mainGlobals "_law_take" = some (some (.ref f0))) (l_law_take : K.lookup f0 = some ⟨oc0, od0, .func (PySem.W.fnOf "_law_take" "_law_take" (defArgs s__law_take) (defBody s__law_take) (defScope s__law_take) .none kV0 dc0 pm0 an0 cd0 ct0), sl0⟩) (c_law_take : PySem.W.codeIn K cd0 "_law_take" = true) (k_law_take : PySem.W.keepIn K (.ref f0) = true)
    (a_law_device_text : PySem.W.nsIn K mainGlobals "_law_device_text" = some (some (.ref f1))) (l_law_device_text : K.lookup f1 = some ⟨oc1, od1, .func (PySem.W.fnOf "_law_device_text" "_law_device_text" (defArgs s__law_device_text) (defBody s__law_device_text) (defScope s__law_device_text) .none kV1 dc1 pm1 an1 cd1 ct1), sl1⟩) (c_law_device_text : PySem.W.codeIn K cd1 "_law_device_text" = true) (k_law_device_text : PySem.W.keepIn K (.ref f1) = true)
    (a_law_of : PySem.W.nsIn K mainGlobals "_law_of" = some (some (.ref f2))) (l_law_of : K.lookup f2 = some ⟨oc2, od2, .func (PySem.W.fnOf "_law_of" "_law_of" (defArgs s__law_of) (defBody s__law_of) (defScope s__law_of) .none kV2 dc2 pm2 an2 cd2 ct2), sl2⟩) (c_law_of : PySem.W.codeIn K cd2 "_law_of" = true) (k_law_of : PySem.W.keepIn K (.ref f2) = true)
    (a_law_bad_rows : PySem.W.nsIn K mainGlobals "_law_bad_rows" = some (some (.ref f3))) (l_law_bad_rows : K.lookup f3 = some ⟨oc3, od3, .func (PySem.W.fnOf "_law_bad_rows" "_law_bad_rows" (defArgs s__law_bad_rows) (defBody s__law_bad_rows) (defScope s__law_bad_rows) .none kV3 dc3 pm3 an3 cd3 ct3), sl3⟩) (c_law_bad_rows : PySem.W.codeIn K cd3 "_law_bad_rows" = true) (k_law_bad_rows : PySem.W.keepIn K (.ref f3) = true)
    (a_law_spoilt : PySem.W.nsIn K mainGlobals "_law_spoilt" = some (some (.ref f4))) (l_law_spoilt : K.lookup f4 = some ⟨oc4, od4, .func (PySem.W.fnOf "_law_spoilt" "_law_spoilt" (defArgs s__law_spoilt) (defBody s__law_spoilt) (defScope s__law_spoilt) .none kV4 dc4 pm4 an4 cd4 ct4), sl4⟩) (c_law_spoilt : PySem.W.codeIn K cd4 "_law_spoilt" = true) (k_law_spoilt : PySem.W.keepIn K (.ref f4) = true)
    (a_law_figures_stages : PySem.W.nsIn K mainGlobals "_law_figures_stages" = some (some (.ref f5))) (l_law_figures_stages : K.lookup f5 = some ⟨oc5, od5, .func (PySem.W.fnOf "_law_figures_stages" "_law_figures_stages" (defArgs s__law_figures_stages) (defBody s__law_figures_stages) (defScope s__law_figures_stages) .none kV5 dc5 pm5 an5 cd5 ct5), sl5⟩) (c_law_figures_stages : PySem.W.codeIn K cd5 "_law_figures_stages" = true) (k_law_figures_stages : PySem.W.keepIn K (.ref f5) = true)
    (a_law_some : PySem.W.nsIn K mainGlobals "_law_some" = some (some (.ref f6))) (l_law_some : K.lookup f6 = some ⟨oc6, od6, .func (PySem.W.fnOf "_law_some" "_law_some" (defArgs s__law_some) (defBody s__law_some) (defScope s__law_some) .none kV6 dc6 pm6 an6 cd6 ct6), sl6⟩) (c_law_some : PySem.W.codeIn K cd6 "_law_some" = true) (k_law_some : PySem.W.keepIn K (.ref f6) = true)
    (a_law_lengths : PySem.W.nsIn K mainGlobals "_law_lengths" = some (some (.ref f7))) (l_law_lengths : K.lookup f7 = some ⟨oc7, od7, .func (PySem.W.fnOf "_law_lengths" "_law_lengths" (defArgs s__law_lengths) (defBody s__law_lengths) (defScope s__law_lengths) .none kV7 dc7 pm7 an7 cd7 ct7), sl7⟩) (c_law_lengths : PySem.W.codeIn K cd7 "_law_lengths" = true) (k_law_lengths : PySem.W.keepIn K (.ref f7) = true)
    (a_law_device : PySem.W.nsIn K mainGlobals "_law_device" = some (some (.ref f8))) (l_law_device : K.lookup f8 = some ⟨oc8, od8, .func (PySem.W.fnOf "_law_device" "_law_device" (defArgs s__law_device) (defBody s__law_device) (defScope s__law_device) .none kV8 dc8 pm8 an8 cd8 ct8), sl8⟩) (c_law_device : PySem.W.codeIn K cd8 "_law_device" = true) (k_law_device : PySem.W.keepIn K (.ref f8) = true)
    (ais_number : PySem.W.nsIn K mainGlobals "is_number" = some (some (.ref f9))) (lis_number : K.lookup f9 = some ⟨oc9, od9, .func (PySem.W.fnOf "is_number" "is_number" (defArgs s_is_number) (defBody s_is_number) (defScope s_is_number) .none kV9 dc9 pm9 an9 cd9 ct9), sl9⟩) (cis_number : PySem.W.codeIn K cd9 "is_number" = true) (kis_number : PySem.W.keepIn K (.ref f9) = true)
    (ais_within : PySem.W.nsIn K mainGlobals "is_within" = some (some (.ref f10))) (lis_within : K.lookup f10 = some ⟨oc10, od10, .func (PySem.W.fnOf "is_within" "is_within" (defArgs s_is_within) (defBody s_is_within) (defScope s_is_within) .none kV10 dc10 pm10 an10 cd10 ct10), sl10⟩) (cis_within : PySem.W.codeIn K cd10 "is_within" = true) (kis_within : PySem.W.keepIn K (.ref f10) = true)
    (ais_stage : PySem.W.nsIn K mainGlobals "is_stage" = some (some (.ref f11))) (lis_stage : K.lookup f11 = some ⟨oc11, od11, .func (PySem.W.fnOf "is_stage" "is_stage" (defArgs s_is_stage) (defBody s_is_stage) (defScope s_is_stage) .none kV11 dc11 pm11 an11 cd11 ct11), sl11⟩) (cis_stage : PySem.W.codeIn K cd11 "is_stage" = true) (kis_stage : PySem.W.keepIn K (.ref f11) = true)
    (aread_number : PySem.W.nsIn K mainGlobals "read_number" = some (some (.ref f12))) (lread_number : K.lookup f12 = some ⟨oc12, od12, .func (PySem.W.fnOf "read_number" "read_number" (defArgs s_read_number) (defBody s_read_number) (defScope s_read_number) .none kV12 dc12 pm12 an12 cd12 ct12), sl12⟩) (cread_number : PySem.W.codeIn K cd12 "read_number" = true) (kread_number : PySem.W.keepIn K (.ref f12) = true)
    (aread_lengths : PySem.W.nsIn K mainGlobals "read_lengths" = some (some (.ref f13))) (lread_lengths : K.lookup f13 = some ⟨oc13, od13, .func (PySem.W.fnOf "read_lengths" "read_lengths" (defArgs s_read_lengths) (defBody s_read_lengths) (defScope s_read_lengths) .none kV13 dc13 pm13 an13 cd13 ct13), sl13⟩) (cread_lengths : PySem.W.codeIn K cd13 "read_lengths" = true) (kread_lengths : PySem.W.keepIn K (.ref f13) = true)
    (aread_stages : PySem.W.nsIn K mainGlobals "read_stages" = some (some (.ref f14))) (lread_stages : K.lookup f14 = some ⟨oc14, od14, .func (PySem.W.fnOf "read_stages" "read_stages" (defArgs s_read_stages) (defBody s_read_stages) (defScope s_read_stages) .none kV14 dc14 pm14 an14 cd14 ct14), sl14⟩) (cread_stages : PySem.W.codeIn K cd14 "read_stages" = true) (kread_stages : PySem.W.keepIn K (.ref f14) = true)
    (a_law_right : PySem.W.nsIn K mainGlobals "_law_right" = some (some (.ref f15))) (l_law_right : K.lookup f15 = some ⟨oc15, od15, .func (PySem.W.fnOf "_law_right" "_law_right" (defArgs s__law_right) (defBody s__law_right) (defScope s__law_right) .none kV15 dc15 pm15 an15 (.ref cc__law_right) ct15), sl15⟩) (c_law_right : PySem.W.codeIn K (.ref cc__law_right) "_law_right" = true) (k_law_right : PySem.W.keepIn K (.ref f15) = true)
    (a_law_pot : PySem.W.nsIn K mainGlobals "_law_pot" = some (some (.ref f16))) (l_law_pot : K.lookup f16 = some ⟨oc16, od16, .func (PySem.W.fnOf "_law_pot" "_law_pot" (defArgs s__law_pot) (defBody s__law_pot) (defScope s__law_pot) .none kV16 dc16 pm16 an16 cd16 ct16), sl16⟩) (c_law_pot : PySem.W.codeIn K cd16 "_law_pot" = true) (k_law_pot : PySem.W.keepIn K (.ref f16) = true)
    (a_law_cells : PySem.W.nsIn K mainGlobals "_law_cells" = some (some (.ref f17))) (l_law_cells : K.lookup f17 = some ⟨oc17, od17, .func (PySem.W.fnOf "_law_cells" "_law_cells" (defArgs s__law_cells) (defBody s__law_cells) (defScope s__law_cells) .none kV17 dc17 pm17 an17 cd17 ct17), sl17⟩) (c_law_cells : PySem.W.codeIn K cd17 "_law_cells" = true) (k_law_cells : PySem.W.keepIn K (.ref f17) = true)
    (alaw : PySem.W.nsIn K mainGlobals "law" = some (some (.ref f18))) (llaw : K.lookup f18 = some ⟨oc18, od18, .func (PySem.W.fnOf "law" "law" (defArgs s_law) (defBody s_law) (defScope s_law) .none kV18 dc18 pm18 an18 cd18 ct18), sl18⟩) (claw : PySem.W.codeIn K cd18 "law" = true) (klaw : PySem.W.keepIn K (.ref f18) = true)
    (a_law_heard : PySem.W.nsIn K mainGlobals "_law_heard" = some (some (.ref f19))) (l_law_heard : K.lookup f19 = some ⟨oc19, od19, .func (PySem.W.fnOf "_law_heard" "_law_heard" (defArgs s__law_heard) (defBody s__law_heard) (defScope s__law_heard) .none kV19 dc19 pm19 an19 cd19 ct19), sl19⟩) (c_law_heard : PySem.W.codeIn K cd19 "_law_heard" = true) (k_law_heard : PySem.W.keepIn K (.ref f19) = true) (nd : ((lsOf cc__law_right pt__law_right).map (·.P)).Nodup) :
    ∀ base : Heap, K.In base → base.Ns mainGlobals mg → (∀ p ∈ (lsOf cc__law_right pt__law_right), LamX.TabB base mg p.c p.P) → Cal P w K ((lsOf cc__law_right pt__law_right).map fun p => (p.P, p.q)) mg base 11 "law" ["script"] (F_law (clOf [C0, C1, KDevice])) := by
  intro base hbase hbn hTB
  obtain ⟨e1, e2, e3⟩ := errsB_ok hE
  have ec : ∀ i, i < 2 → clOf [C0, C1, KDevice] i = [C0, C1].getD i 0 := fun i hi => clOf_app (Cs := [C0, C1]) (Ds := [KDevice]) hi
  have e1 : ∀ i, i < 2 → ErrC K (clOf [C0, C1, KDevice] i) fI := fun i hi => by rw [ec i hi]; exact e1 i hi
  have e2 : ∀ j, j < 2 → ∀ i, i < 2 → PySem.W.kitOne K (.ref (clOf [C0, C1, KDevice] i)) (.ref (clOf [C0, C1, KDevice] j)) = some (kb j i) := fun j hj i hi => by rw [ec i hi, ec j hj]; exact e2 j hj i hi
  have e3 : ∀ i, i < 2 → PySem.W.kitOne K (.ref (clOf [C0, C1, KDevice] i)) (.type "ValueError") = some true := fun i hi => by rw [ec i hi]; exact e3 i hi
  have G : Gx K mg (clOf [C0, C1, KDevice]) fI := { b_abs := PySem.W.mg_none_of X Gn b_abs, b_all := PySem.W.mg_none_of X Gn b_all, b_bool := PySem.W.mg_none_of X Gn b_bool, b_enumerate := PySem.W.mg_none_of X Gn b_enumerate, b_int := PySem.W.mg_none_of X Gn b_int, b_isinstance := PySem.W.mg_none_of X Gn b_isinstance, b_len := PySem.W.mg_none_of X Gn b_len, b_list := PySem.W.mg_none_of X Gn b_list, b_max := PySem.W.mg_none_of X Gn b_max, b_min := PySem.W.mg_none_of X Gn b_min, b_range := PySem.W.mg_none_of X Gn b_range, b_repr := PySem.W.mg_none_of X Gn b_repr, b_set := PySem.W.mg_none_of X Gn b_set, b_str := PySem.W.mg_none_of X Gn b_str, b_sum := PySem.W.mg_none_of X Gn b_sum, b_tuple := PySem.W.mg_none_of X Gn b_tuple, c_FEWEST_LANES := ⟨.int 2, _, PySem.W.mg_of X Gn v_FEWEST_LANES, ⟨_, rfl⟩, fun _ => .int _⟩, c_MOST_FIGURES := ⟨.int 9, _, PySem.W.mg_of X Gn v_MOST_FIGURES, ⟨_, rfl⟩, fun _ => .int _⟩, c_MOST_LANES := ⟨.int 4, _, PySem.W.mg_of X Gn v_MOST_LANES, ⟨_, rfl⟩, fun _ => .int _⟩, c_MOST_LENGTH := ⟨.int 1000000, _, PySem.W.mg_of X Gn v_MOST_LENGTH, ⟨_, rfl⟩, fun _ => .int _⟩, c_MOST_STAGES := ⟨.int 6, _, PySem.W.mg_of X Gn v_MOST_STAGES, ⟨_, rfl⟩, fun _ => .int _⟩, ek := e1, ki := e2, kv := e3, n_BadDevice := PySem.W.mg_of X Gn a_BadDevice, n_LoopError := PySem.W.mg_of X Gn a_LoopError, kx := fun i hi => by rw [ec i hi]; exact exmB_ok hX i hi, k_Device := ⟨g1_Device, g2_Device, g3_Device, g4_Device⟩, na_Device_stages := n1_Device, na_Device_text := n2_Device }
  have FI : Fun K "__init__" "LoopError.__init__" s_init fI _ := fun_mk (st := s_init) lI cI kI
  have EX : Exx P w K mg base fI := ⟨_, ok_init FI, FI.binds (ps := ["self", "value"]) fun _ _ _ _ _ _ us hl => match us, hl with | [_, _], _ => rfl⟩
  have D_law_heard : Dfn K mg "_law_heard" s__law_heard none := ⟨_, _, _, _, _, _, _, _, _, _, PySem.W.mg_of X Gn a_law_heard, k_law_heard, l_law_heard, c_law_heard, fun _ z => by cases z⟩
  have H_law_heard := hrd__law_heard (P := P) (w := w) (Ts := ((lsOf cc__law_right pt__law_right).map fun p => (p.P, p.q))) (base := base) G EX D_law_heard fun _ _ _ _ _ _ us hl => match us, hl with | [_], _ => rfl
  have D_law_take : Dfn K mg "_law_take" s__law_take none := ⟨_, _, _, _, _, _, _, _, _, _, PySem.W.mg_of X Gn a_law_take, k_law_take, l_law_take, c_law_take, fun _ z => by cases z⟩
  have S_law_take := cal__law_take (P := P) (w := w) (Ts := ((lsOf cc__law_right pt__law_right).map fun p => (p.P, p.q))) (base := base) G EX D_law_take 
  have K_law_take := S_law_take.cal fun _ _ _ _ _ _ us hl => match us, hl with | [_, _], _ => rfl
  have D_law_device_text : Dfn K mg "_law_device_text" s__law_device_text none := ⟨_, _, _, _, _, _, _, _, _, _, PySem.W.mg_of X Gn a_law_device_text, k_law_device_text, l_law_device_text, c_law_device_text, fun _ z => by cases z⟩
  have S_law_device_text := cal__law_device_text (P := P) (w := w) (Ts := ((lsOf cc__law_right pt__law_right).map fun p => (p.P, p.q))) (base := base) G EX D_law_device_text 
  have K_law_device_text := S_law_device_text.cal fun _ _ _ _ _ _ us hl => match us, hl with | [_], _ => rfl
  have D_law_of : Dfn K mg "_law_of" s__law_of none := ⟨_, _, _, _, _, _, _, _, _, _, PySem.W.mg_of X Gn a_law_of, k_law_of, l_law_of, c_law_of, fun _ z => by cases z⟩
  have S_law_of := cal__law_of (P := P) (w := w) (Ts := ((lsOf cc__law_right pt__law_right).map fun p => (p.P, p.q))) (base := base) G EX D_law_of K_law_take
  have K_law_of := S_law_of.cal fun _ _ _ _ _ _ us hl => match us, hl with | [_, _], _ => rfl
  have D_law_bad_rows : Dfn K mg "_law_bad_rows" s__law_bad_rows none := ⟨_, _, _, _, _, _, _, _, _, _, PySem.W.mg_of X Gn a_law_bad_rows, k_law_bad_rows, l_law_bad_rows, c_law_bad_rows, fun _ z => by cases z⟩
  have S_law_bad_rows := cal__law_bad_rows (P := P) (w := w) (Ts := ((lsOf cc__law_right pt__law_right).map fun p => (p.P, p.q))) (base := base) G EX D_law_bad_rows 
  have K_law_bad_rows := S_law_bad_rows.cal fun _ _ _ _ _ _ us hl => match us, hl with | [], _ => rfl
  have D_law_spoilt : Dfn K mg "_law_spoilt" s__law_spoilt none := ⟨_, _, _, _, _, _, _, _, _, _, PySem.W.mg_of X Gn a_law_spoilt, k_law_spoilt, l_law_spoilt, c_law_spoilt, fun _ z => by cases z⟩
  have S_law_spoilt := cal__law_spoilt (P := P) (w := w) (Ts := ((lsOf cc__law_right pt__law_right).map fun p => (p.P, p.q))) (base := base) G EX D_law_spoilt K_law_bad_rows K_law_device_text K_law_of K_law_take
  have K_law_spoilt := S_law_spoilt.cal fun _ _ _ _ _ _ us hl => match us, hl with | [_, _], _ => rfl
  have D_law_figures_stages : Dfn K mg "_law_figures_stages" s__law_figures_stages none := ⟨_, _, _, _, _, _, _, _, _, _, PySem.W.mg_of X Gn a_law_figures_stages, k_law_figures_stages, l_law_figures_stages, c_law_figures_stages, fun _ z => by cases z⟩
  have S_law_figures_stages := cal__law_figures_stages (P := P) (w := w) (Ts := ((lsOf cc__law_right pt__law_right).map fun p => (p.P, p.q))) (base := base) G EX D_law_figures_stages K_law_of
  have K_law_figures_stages := S_law_figures_stages.cal fun _ _ _ _ _ _ us hl => match us, hl with | [_, _], _ => rfl
  have D_law_some : Dfn K mg "_law_some" s__law_some none := ⟨_, _, _, _, _, _, _, _, _, _, PySem.W.mg_of X Gn a_law_some, k_law_some, l_law_some, c_law_some, fun _ z => by cases z⟩
  have S_law_some := cal__law_some (P := P) (w := w) (Ts := ((lsOf cc__law_right pt__law_right).map fun p => (p.P, p.q))) (base := base) G EX D_law_some K_law_take
  have K_law_some := S_law_some.cal fun _ _ _ _ _ _ us hl => match us, hl with | [_, _, _], _ => rfl
  have D_law_lengths : Dfn K mg "_law_lengths" s__law_lengths none := ⟨_, _, _, _, _, _, _, _, _, _, PySem.W.mg_of X Gn a_law_lengths, k_law_lengths, l_law_lengths, c_law_lengths, fun _ z => by cases z⟩
  have S_law_lengths := cal__law_lengths (P := P) (w := w) (Ts := ((lsOf cc__law_right pt__law_right).map fun p => (p.P, p.q))) (base := base) G EX D_law_lengths K_law_some K_law_take
  have K_law_lengths := S_law_lengths.cal fun _ _ _ _ _ _ us hl => match us, hl with | [_, _, _], _ => rfl
  have D_law_device : Dfn K mg "_law_device" s__law_device none := ⟨_, _, _, _, _, _, _, _, _, _, PySem.W.mg_of X Gn a_law_device, k_law_device, l_law_device, c_law_device, fun _ z => by cases z⟩
  have S_law_device := cal__law_device (P := P) (w := w) (Ts := ((lsOf cc__law_right pt__law_right).map fun p => (p.P, p.q))) (base := base) G EX D_law_device K_law_figures_stages K_law_lengths K_law_some K_law_take
  have K_law_device := S_law_device.cal fun _ _ _ _ _ _ us hl => match us, hl with | [_, _, _], _ => rfl
  have Dis_number : Dfn K mg "is_number" s_is_number none := ⟨_, _, _, _, _, _, _, _, _, _, PySem.W.mg_of X Gn ais_number, kis_number, lis_number, cis_number, fun _ z => by cases z⟩
  have Sis_number := cal_is_number (P := P) (w := w) (Ts := ((lsOf cc__law_right pt__law_right).map fun p => (p.P, p.q))) (base := base) G EX Dis_number 
  have Kis_number := Sis_number.cal fun _ _ _ _ _ _ us hl => match us, hl with | [_], _ => rfl
  have Dis_within : Dfn K mg "is_within" s_is_within none := ⟨_, _, _, _, _, _, _, _, _, _, PySem.W.mg_of X Gn ais_within, kis_within, lis_within, cis_within, fun _ z => by cases z⟩
  have Sis_within := cal_is_within (P := P) (w := w) (Ts := ((lsOf cc__law_right pt__law_right).map fun p => (p.P, p.q))) (base := base) G EX Dis_within Kis_number
  have Kis_within := Sis_within.cal fun _ _ _ _ _ _ us hl => match us, hl with | [_, _, _], _ => rfl
  have Dis_stage : Dfn K mg "is_stage" s_is_stage none := ⟨_, _, _, _, _, _, _, _, _, _, PySem.W.mg_of X Gn ais_stage, kis_stage, lis_stage, cis_stage, fun _ z => by cases z⟩
  have Sis_stage := cal_is_stage (P := P) (w := w) (Ts := ((lsOf cc__law_right pt__law_right).map fun p => (p.P, p.q))) (base := base) G EX Dis_stage Kis_within
  have Kis_stage := Sis_stage.cal fun _ _ _ _ _ _ us hl => match us, hl with | [_], _ => rfl
  have Dread_number : Dfn K mg "read_number" s_read_number none := ⟨_, _, _, _, _, _, _, _, _, _, PySem.W.mg_of X Gn aread_number, kread_number, lread_number, cread_number, fun _ z => by cases z⟩
  have Sread_number := cal_read_number (P := P) (w := w) (Ts := ((lsOf cc__law_right pt__law_right).map fun p => (p.P, p.q))) (base := base) G EX Dread_number 
  have Kread_number := Sread_number.cal fun _ _ _ _ _ _ us hl => match us, hl with | [_], _ => rfl
  have Dread_lengths : Dfn K mg "read_lengths" s_read_lengths none := ⟨_, _, _, _, _, _, _, _, _, _, PySem.W.mg_of X Gn aread_lengths, kread_lengths, lread_lengths, cread_lengths, fun _ z => by cases z⟩
  have Sread_lengths := cal_read_lengths (P := P) (w := w) (Ts := ((lsOf cc__law_right pt__law_right).map fun p => (p.P, p.q))) (base := base) G EX Dread_lengths Kis_stage Kread_number
  have Kread_lengths := Sread_lengths.cal fun _ _ _ _ _ _ us hl => match us, hl with | [_], _ => rfl
  have Dread_stages : Dfn K mg "read_stages" s_read_stages none := ⟨_, _, _, _, _, _, _, _, _, _, PySem.W.mg_of X Gn aread_stages, kread_stages, lread_stages, cread_stages, fun _ z => by cases z⟩
  have Sread_stages := cal_read_stages (P := P) (w := w) (Ts := ((lsOf cc__law_right pt__law_right).map fun p => (p.P, p.q))) (base := base) G EX Dread_stages Kread_lengths
  have Kread_stages := Sread_stages.cal fun _ _ _ _ _ _ us hl => match us, hl with | [_], _ => rfl
  have Z_Device : Mkr P w K ((lsOf cc__law_right pt__law_right).map fun p => (p.P, p.q)) mg base 6 "Device" KDevice "stages" "text" (F_read_stages (clOf [C0, C1, KDevice])) := ⟨_, _, _, PySem.W.mg_of X Gn a_Device, ⟨m1_Device, m2_Device, m3_Device, m4_Device⟩, ini_Device (Ts := ((lsOf cc__law_right pt__law_right).map fun p => (p.P, p.q))) (base := base) G lI_Device cI_Device Kread_stages, .all fun us hl => match us, hl with | [_, _], _ => rfl⟩
  have M_law_right : (⟨"_law_right", cc__law_right, pt__law_right, (("_law_right" : Str) ++ ".<locals>.") ++ "<lambda>"⟩ : Lm) ∈ (lsOf cc__law_right pt__law_right) := .head _
  have D_law_right : Dfn K mg "_law_right" s__law_right (some cc__law_right) := ⟨_, _, _, _, _, _, _, _, _, _, PySem.W.mg_of X Gn a_law_right, k_law_right, l_law_right, c_law_right, fun _ z => by cases z; rfl⟩
  have S_law_right := cal__law_right (P := P) (w := w) (Ts := ((lsOf cc__law_right pt__law_right).map fun p => (p.P, p.q))) (base := base) G EX (hTB _ M_law_right) (List.mem_map.mpr ⟨_, M_law_right, rfl⟩) (hu_of nd M_law_right) D_law_right K_law_device K_law_spoilt H_law_heard Z_Device
  have K_law_right := S_law_right.cal fun _ _ _ _ _ _ us hl => match us, hl with | [_], _ => rfl
  have D_law_pot : Dfn K mg "_law_pot" s__law_pot none := ⟨_, _, _, _, _, _, _, _, _, _, PySem.W.mg_of X Gn a_law_pot, k_law_pot, l_law_pot, c_law_pot, fun _ z => by cases z⟩
  have S_law_pot := cal__law_pot (P := P) (w := w) (Ts := ((lsOf cc__law_right pt__law_right).map fun p => (p.P, p.q))) (base := base) G EX D_law_pot 
  have K_law_pot := S_law_pot.cal fun _ _ _ _ _ _ us hl => match us, hl with | [_, _], _ => rfl
  have D_law_cells : Dfn K mg "_law_cells" s__law_cells none := ⟨_, _, _, _, _, _, _, _, _, _, PySem.W.mg_of X Gn a_law_cells, k_law_cells, l_law_cells, c_law_cells, fun _ z => by cases z⟩
  have S_law_cells := cal__law_cells (P := P) (w := w) (Ts := ((lsOf cc__law_right pt__law_right).map fun p => (p.P, p.q))) (base := base) G EX D_law_cells 
  have K_law_cells := S_law_cells.cal fun _ _ _ _ _ _ us hl => match us, hl with | [_, _], _ => rfl
  have Dlaw : Dfn K mg "law" s_law none := ⟨_, _, _, _, _, _, _, _, _, _, PySem.W.mg_of X Gn alaw, klaw, llaw, claw, fun _ z => by cases z⟩
  have Slaw := cal_law (P := P) (w := w) (Ts := ((lsOf cc__law_right pt__law_right).map fun p => (p.P, p.q))) (base := base) G EX Dlaw K_law_cells K_law_pot K_law_right
  have Klaw := Slaw.cal fun _ _ _ _ _ _ us hl => match us, hl with | [_], _ => rfl
  exact Klaw
theorem law_end {q : Program} {XP : (Str → Option Value) → Heap → Prop} {YP : World → Heap → Prop} {d : DefRec} {K : Params → PySem.W.Frag} {cc__law_right pt__law_right : Addr} (hd : d.params.defaults = []) (hY : ∀ (w : World) (h : Heap), YP w h → (K w.params).In h) (cl : Nat → Addr) (hr__law_right : ((PyProof.Rows.recsOf q).find? fun e => e.name == ("_law_right" : Str)).isSome = true) (ht__law_right : ∀ w : World, PySem.W.tabIn (K w.params) "_law_right" = some (cc__law_right, pt__law_right)) (hn__law_right : ∀ w : World, (K w.params).lookup pt__law_right = none) (nd : ((lsOf cc__law_right pt__law_right).map (·.P)).Nodup)
    (hf : ∀ (w : World) (mg : Str → Option Value) (h : Heap), (K w.params).In h → h.Ns mainGlobals mg → ∀ base : Heap, (K w.params).In base → base.Ns mainGlobals mg → (∀ p ∈ (lsOf cc__law_right pt__law_right), LamX.TabB base mg p.c p.P) → Cal PySem.Challenge.rw_queueloops_k01_lines_of_no_device.prog w (K w.params) ((lsOf cc__law_right pt__law_right).map fun p => (p.P, p.q)) mg base 11 d.name ["script"] (F_law cl)) :
    PySem.W.WalkO q [] XP YP PySem.Challenge.rw_queueloops_k01_lines_of_no_device.row.toRowW d [] (fun f vs => PySem.call f vs) := by
  have e1 : PySem.Challenge.rw_queueloops_k01_lines_of_no_device.most = some 63 := by kernel_rfl
  have e2 : 63 ≤ sizeLine := by rw [sizeLine_eq]; decide
  have hrec : ∀ p ∈ (lsOf cc__law_right pt__law_right), ((PyProof.Rows.recsOf q).find? fun e => e.name == p.x).isSome = true := by
    intro p hp
    simp only [lsOf, List.mem_cons, List.not_mem_nil, or_false] at hp
    rcases hp with rfl
    · exact hr__law_right
  have htab : ∀ (w : World), ∀ p ∈ (lsOf cc__law_right pt__law_right), PySem.W.tabIn (K w.params) p.x = some (p.c, p.P) ∧ (K w.params).lookup p.P = none := by
    intro w p hp
    simp only [lsOf, List.mem_cons, List.not_mem_nil, or_false] at hp
    rcases hp with rfl
    · exact ⟨ht__law_right w, hn__law_right w⟩
  exact DL.law_walks (K := K) (F := fun _ => F_law cl) (ls := (lsOf cc__law_right pt__law_right)) e1 e2 hd ⟨by decide, by decide, by decide⟩ hY nd hrec htab (fun w mg h a b base c d e => hf w mg h a b base c d e) (fun w ns _ _ => pure_ok)
end Lk
open PySem PySem.W PyProof.Rows
set_option Elab.async false
set_option maxRecDepth 100000 in
set_option maxHeartbeats 0 in
theorem PySem.Challenge.cw_queueloops_k01_lines_of_no_device_holds : PySem.Challenge.rw_queueloops_k01_lines_of_no_device.Holds := by
  w_on; o_law; k_head; (case hw => w_witness2)
  k_fill
  refine' Lk.law_end rfl (fun w h Y => PySem.W.km_in_of Y) (Lk.clOf _) ?hr0 ?ht0 ?hn0 ?nd ?F
  case ht0 =>
    intro w
    refine' Lk.tab_by ?z1 ?z2 ?z3 ?z4
    (case z1 => k_is)
    (case z2 => k_is)
    (case z3 => k_is)
    (case z4 => rfl)
  case hr0 => kernel_rfl
  case hn0 => intro w; kernel_rfl
  case nd => decide
  case F =>
    intro w mg h KX G
    refine' Lk.all_mk KX G ?x0 ?x1 ?x2 ?x3 ?x4 ?x5 ?x6 ?x7 ?x8 ?x9 ?x10 ?x11 ?x12 ?x13 ?x14 ?x15 ?x16 ?x17 ?x18 ?x19 ?x20 ?x21 ?x22 ?x23 ?x24 ?x25 ?x26 ?x27 ?x28 ?x29 ?x30 ?x31 ?x32 ?x33 ?x34 ?x35 ?x36 ?x37 ?x38 ?x39 ?x40 ?x41 ?x42 ?x43 ?x44 ?x45 ?x46 ?x47 ?x48 ?x49 ?x50 ?x51 ?x52 ?x53 ?x54 ?x55 ?x56 ?x57 ?x58 ?x59 ?x60 ?x61 ?x62 ?x63 ?x64 ?x65 ?x66 ?x67 ?x68 ?x69 ?x70 ?x71 ?x72 ?x73 ?x74 ?x75 ?x76 ?x77 ?x78 ?x79 ?x80 ?x81 ?x82 ?x83 ?x84 ?x85 ?x86 ?x87 ?x88 ?x89 ?x90 ?x91 ?x92 ?x93 ?x94 ?x95 ?x96 ?x97 ?x98 ?x99 ?x100 ?x101 ?x102 ?x103 ?x104 ?x105 ?x106 ?x107 ?x108 ?x109 ?x110 ?x111 ?x112 ?x113 ?x114 ?x115 ?x116 ?x117 ?x118 ?x119 ?x120 ?x121 ?nd2
    (case x0 => k_is)
    (case x1 => k_is)
    (case x2 => k_is)
    (case x5 => k_is)
    (case x6 => k_is)
    (case x7 => k_is)
    (case x8 => k_is)
    (case x9 => k_is)
    (case x12 => k_is)
    (case x16 => k_is)
    (case x17 => k_is)
    (case x18 => k_is)
    (case x19 => k_is)
    (case x20 => k_is)
    (case x21 => k_is)
    (case x22 => k_is)
    (case x23 => k_is)
    (case x24 => k_is)
    (case x25 => k_is)
    (case x26 => k_is)
    (case x27 => k_is)
    (case x28 => k_is)
    (case x29 => k_is)
    (case x30 => k_is)
    (case x31 => k_is)
    (case x32 => k_is)
    (case x33 => k_is)
    (case x34 => k_is)
    (case x35 => k_is)
    (case x36 => k_is)
    (case x37 => k_is)
    (case x38 => k_is)
    (case x39 => k_is)
    (case x40 => k_is)
    (case x41 => k_is)
    (case x42 => k_is)
    (case x43 => k_is)
    (case x44 => k_is)
    (case x45 => k_is)
    (case x46 => k_is)
    (case x47 => k_is)
    (case x48 => k_is)
    (case x49 => k_is)
    (case x50 => k_is)
    (case x51 => k_is)
    (case x52 => k_is)
    (case x53 => k_is)
    (case x54 => k_is)
    (case x55 => k_is)
    (case x56 => k_is)
    (case x57 => k_is)
    (case x58 => k_is)
    (case x59 => k_is)
    (case x60 => k_is)
    (case x61 => k_is)
    (case x62 => k_is)
    (case x63 => k_is)
    (case x64 => k_is)
    (case x65 => k_is)
    (case x66 => k_is)
    (case x67 => k_is)
    (case x68 => k_is)
    (case x69 => k_is)
    (case x70 => k_is)
    (case x71 => k_is)
    (case x72 => k_is)
    (case x73 => k_is)
    (case x74 => k_is)
    (case x75 => k_is)
    (case x76 => k_is)
    (case x77 => k_is)
    (case x78 => k_is)
    (case x79 => k_is)
    (case x80 => k_is)
    (case x81 => k_is)
    (case x82 => k_is)
    (case x83 => k_is)
    (case x84 => k_is)
    (case x85 => k_is)
    (case x86 => k_is)
    (case x87 => k_is)
    (case x88 => k_is)
    (case x89 => k_is)
    (case x90 => k_is)
    (case x91 => k_is)
    (case x92 => k_is)
    (case x93 => k_is)
    (case x94 => k_is)
    (case x95 => k_is)
    (case x96 => k_is)
    (case x97 => k_is)
    (case x98 => k_is)
    (case x99 => k_is)
    (case x100 => k_is)
    (case x101 => k_is)
    (case x102 => k_is)
    (case x103 => k_is)
    (case x104 => k_is)
    (case x105 => k_is)
    (case x106 => k_is)
    (case x107 => k_is)
    (case x108 => k_is)
    (case x109 => k_is)
    (case x110 => k_is)
    (case x111 => k_is)
    (case x112 => k_is)
    (case x113 => k_is)
    (case x114 => k_is)
    (case x115 => k_is)
    (case x116 => k_is)
    (case x117 => k_is)
    (case x118 => k_is)
    (case x119 => k_is)
    (case x120 => k_is)
    (case x121 => k_is)
    (case x3 => kernel_rfl)
    (case x4 => kernel_rfl)
    (case x10 => kernel_rfl)
    (case x11 => kernel_rfl)
    (case x13 => kernel_rfl)
    (case x14 => kernel_rfl)
    (case x15 => kernel_rfl)
    (case nd2 => decide)

