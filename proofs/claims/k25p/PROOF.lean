import PyProof.Rows.All
import Wide.All
import OpenK.AllK
import Wide.FinOn
import HandS.ForMost
import HandS.ExcInit
import HandS.Lambda
import HandS.WordsExc
import HandS.TupAny
import HandS.WideBits
import HandS.Wide
import HandS.Flow
import HandS.SortInts
import HandS.Conv
import HandS.Style
import HandS.Zip
import HandS.EndBits
import KE.KNest
import HandS.IsInst
import KE.KExcIs
import HandS.ExcField
import HandS.ExcValue
import PyProof.Rows.CountFlat
import HandS.DictComp
import PyProof.ReprRoads
import HandS.Dict
import KE.GoesEnum
import KE.GoesMore
import HandS.TupMul
import KE.SortData
import KE.GoesZip
import PySem.Challenge.RW_queueloops_k25_whole_which_services_figu
set_option Elab.async false
set_option linter.all false
set_option maxRecDepth 100000
set_option maxHeartbeats 2000000
/-! DL: readings over plain data. A value of the program is told by a datum (PD), the slots of a def by what they hold (SD), so that what is left of a def's body speaks of data alone. -/
namespace DL
open PySem L2

/-- a datum: what can no longer change -/
inductive PD where
  | non | bl (b : Bool) | int (i : Int) | str (s : Str)
  | lst (xs : List PD) | tup (xs : List PD)
  /-- the script -/
  | scr (ns : List Int)
  | dct (kvs : List (Key × PD))
  | ins (C : Addr) (fs : List (Str × PD))
  | err (C : Addr) (v : PD)
  /-- a function, made when g was stable -/
  | fn (f : Addr) (g : Hp)
/-- a thing that may still change -/
inductive OD where
  | lst (xs : List PD)
  | dK (kvs : List (Key × PD))
  | dT (kvs : List (List Key × PD))
def OD.pd : OD → Option PD
  | .lst xs => some (.lst xs)
  | .dK kvs => some (.dct kvs)
  | .dT _ => none
/-- what a slot holds -/
inductive SD where
  | emp | dat (d : PD) | own (o : OD)
abbrev Sl := List SD
/-- what an expression gives: a datum, a new thing of one's own, or the thing of a slot -/
inductive Rz where
  | dat (d : PD) | own (o : OD) | bor (i : Nat)

/-- no table of code objects -/
def Nt (o : HO) : Prop := ∀ ps, o ≠ .tbl ps
theorem nt_lst {xs : List V} : Nt (.lst xs) := fun _ z => by cases z
theorem nt_tup {xs : List V} : Nt (.tup xs) := fun _ z => by cases z
theorem nt_dK {xs : List (Key × V)} : Nt (.dK xs) := fun _ z => by cases z
theorem nt_xd {xs : List (Str × V)} : Nt (.xd xs) := fun _ z => by cases z
theorem nt_frz {o : Obj} {u : HO} : Nt (.frz o u) := fun _ z => by cases z
theorem nt_ext {φ : Heap → Prop} : Nt (.ext φ) := fun _ z => by cases z
theorem nt_exo {e C : Addr} {d : Option Addr} : Nt (exo e C d) := nt_ext
theorem nt_exd {dx : Addr} {fs : List (Str × V)} : Nt (exd dx fs) := nt_ext
/-- what a slot may own -/
def Ow : HO → Prop
  | .lst _ => True
  | .dK _ => True
  | _ => False
theorem Ow.nt : ∀ {o : HO}, Ow o → Nt o := fun {o} h ps z => by subst z; exact h
/-- tracked, and no table -/
def Tr (H : Hp) (a : Addr) : Prop := ∃ o, H a = some o ∧ Nt o
theorem Tr.no {H : Hp} {a : Addr} (t : Tr H a) (h : H a = none) : False := by obtain ⟨o, e, _⟩ := t; rw [h] at e; cases e
theorem Tr.upd {H : Hp} {a p : Addr} {o : HO} (t : Tr H a) (h : a ≠ p) : Tr (L2.upd H p o) a := by obtain ⟨u, e, n⟩ := t; exact ⟨u, by rw [upd_ne h]; exact e, n⟩
/-- all but tables of code objects stay -/
def Ex (H H' : Hp) : Prop := ∀ a o, H a = some o → Nt o → H' a = some o
theorem Ex.refl (H : Hp) : Ex H H := fun _ _ h _ => h
theorem Ex.trans {H H1 H2 : Hp} (a : Ex H H1) (b : Ex H1 H2) : Ex H H2 := fun x o h n => b x o (a x o h n) n
theorem Ex.new {H : Hp} {p : Addr} {o : HO} (h : H p = none) : Ex H (upd H p o) := fun a u e _ => by
  rw [upd_ne (ne_of_none e h)]; exact e
theorem Ex.both {H H' : Hp} {p : Addr} {o : HO} (e : Ex H H') (hn : H p = none) : Ex (upd H p o) (upd H' p o) := fun a u h n => by
  by_cases hp : a = p
  · subst hp; rw [upd_same] at h ⊢; exact h
  · rw [upd_ne hp] at h ⊢; exact e a u h n
theorem Ex.right {H H' : Hp} {p : Addr} {o : HO} (e : Ex H H') (hn : H p = none) : Ex H (upd H' p o) := fun a u h n => by
  rw [upd_ne (ne_of_none h hn)]; exact e a u h n
/-- the tables of code objects that are known: their marks in G -/
def Tb (G H : Hp) : Prop := ∀ a ps, G a = some (.tbl ps) → ∃ q t, ps = #[Value.str q t] ∧ LamX.TabS H a q
theorem tabS_new {H : Hp} {P p : Addr} {q : Str} {o : HO} (t : LamX.TabS H P q) (h : H p = none) : LamX.TabS (upd H p o) P q := t.ext fun a u e => by
  rw [upd_ne (ne_of_none e h)]; exact e
theorem tabS_put {H : Hp} {P p : Addr} {q : Str} {o o' : HO} (t : LamX.TabS H P q) (h : H p = some o) (n1 : Nt o) (n2 : ∀ c q, o ≠ LamX.CodeO c q) : LamX.TabS (upd H p o') P q := by
  obtain ⟨ps, h1, h2, h3⟩ := t
  have np : P ≠ p := fun z => by rw [z, h] at h1; exact n1 _ (Option.some.inj h1)
  refine ⟨ps, by rw [upd_ne np]; exact h1, h2, fun pos cv hc => ?_⟩
  obtain ⟨c, e1, e2⟩ := h3 pos cv hc
  exact ⟨c, e1, by rw [upd_ne (fun z => by rw [z, h] at e2; exact n2 _ _ (Option.some.inj e2))]; exact e2⟩
theorem Tb.new {G H : Hp} {p : Addr} {o : HO} (t : Tb G H) (h : H p = none) : Tb G (upd H p o) := fun a ps e => let ⟨q, k, e1, e2⟩ := t a ps e; ⟨q, k, e1, tabS_new e2 h⟩
theorem Tb.put {G H : Hp} {p : Addr} {o o' : HO} (t : Tb G H) (h : H p = some o) (n1 : Nt o) (n2 : ∀ c q, o ≠ LamX.CodeO c q) : Tb G (upd H p o') := fun a ps e => let ⟨q, k, e1, e2⟩ := t a ps e; ⟨q, k, e1, tabS_put e2 h n1 n2⟩
theorem mark_old {G : Hp} {p a : Addr} {o : HO} {ps : Array Value} (n : Nt o) (h : upd G p o a = some (.tbl ps)) : G a = some (.tbl ps) := by
  by_cases z : a = p
  · subst z; rw [upd_same] at h; exact absurd (Option.some.inj h) (n ps)
  · rw [upd_ne z] at h; exact h
/-- a new thing is marked in G, which is no table -/
theorem Tb.mark {G H : Hp} {p : Addr} {o : HO} (t : Tb G H) (n : Nt o) : Tb (upd G p o) H := fun a ps e => by
  by_cases z : a = p
  · subst z; rw [upd_same] at e; exact absurd (Option.some.inj e) (n ps)
  · rw [upd_ne z] at e; exact t a ps e
theorem Ex.free {H H' : Hp} {p : Addr} (e : Ex H H') (t : Tb H H') (h : H' p = none) : H p = none := by
  cases h1 : H p with
  | none => rfl
  | some o =>
    by_cases n : Nt o
    · rw [e p o h1 n] at h; cases h
    · obtain ⟨ps, hps⟩ := Classical.not_forall.mp n
      have hps : o = .tbl ps := Classical.not_not.mp hps
      subst hps
      obtain ⟨q, k, _, qs, h2, _⟩ := t p ps h1
      rw [h2] at h; cases h
theorem ex_l {K : PySem.W.Frag} {H H' : Hp} {a : Addr} {xs : List V} (e : Ex H H') (h : SqL K H a xs) : SqL K H' a xs := by
  rcases h with (h | ⟨o, h⟩) | h
  · exact Or.inl (Or.inl (e a _ h nt_lst))
  · exact Or.inl (Or.inr ⟨o, e a _ h nt_frz⟩)
  · exact Or.inr h
theorem ex_t {K : PySem.W.Frag} {H H' : Hp} {a : Addr} {xs : List V} (e : Ex H H') (h : SqT K H a xs) : SqT K H' a xs := by
  rcases h with (h | ⟨o, h⟩) | h
  · exact Or.inl (Or.inl (e a _ h nt_tup))
  · exact Or.inl (Or.inr ⟨o, e a _ h nt_frz⟩)
  · exact Or.inr h

/-- an exception, whatever its traceback is -/
def exa (e C : Addr) (d : Option Addr) : HO := .ext fun h => ∃ (oe : Obj) (vs : Array Value), h.get? e = some oe ∧ Zc (.ref C) d oe ∧ oe.data = .fields vs
/-- what is tracked of an own error: as it was made, or as it was caught -/
inductive ErrO (a C d : Addr) : HO → Prop
  | made : ErrO a C d (exo a C (some d))
  | had : ErrO a C d (exa a C (some d))
inductive ErrD (d : Addr) (fs : List (Str × V)) : HO → Prop
  | made : ErrD d fs (exd d fs)
  | had : ErrD d fs (.xd fs)
theorem ErrO.nt {a C d : Addr} {o : HO} : ErrO a C d o → Nt o
  | .made => nt_ext
  | .had => nt_ext
theorem ErrD.nt {d : Addr} {fs : List (Str × V)} {o : HO} : ErrD d fs o → Nt o
  | .made => nt_ext
  | .had => nt_xd
mutual
inductive Rp (K : PySem.W.Frag) (G : Hp) : V → PD → Prop
  | non : Rp K G .non .non
  | bl (b : Bool) : Rp K G (.bl b) (.bl b)
  | int (i : Int) : Rp K G (.int i) (.int i)
  | str (x : Str) : Rp K G (.str x) (.str x)
  | lst {a : Addr} {xs : List V} {ds : List PD} : G a = some (.lst xs) → RpAll K G xs ds → Rp K G (.ref a) (.lst ds)
  | scr {a : Addr} {ns : List Int} : SqL K G a (ns.map V.int) → Rp K G (.ref a) (.scr ns)
  | tup {a : Addr} {xs : List V} {ds : List PD} : SqT K G a xs → RpAll K G xs ds → Rp K G (.ref a) (.tup ds)
  | dct {a : Addr} {kvs : List (Key × V)} {kds : List (Key × PD)} : G a = some (.dK kvs) → RpKv K G kvs kds → Rp K G (.ref a) (.dct kds)
  /-- an own error, made: its class, its value -/
  | err {a C d : Addr} {o od : HO} {fs : List (Str × V)} {v : V} {u : PD} : G a = some o → G d = some od → ErrO a C d o → ErrD d fs od → fs.lookup ("value" : Str) = some v → Rp K G v u → Rp K G (.ref a) (.err C u)
  | fn {f : Addr} {g : Hp} : Ex g G → Rp K G (.ref f) (.fn f g)
  | ins {a C dx : Addr} {vfs : List (Str × V)} {fs : List (Str × PD)} : G a = some (.ins C dx vfs) → G dx = some (.own a) → RpKv K G (vfs.map fun p => ((Sum.inr p.1 : Key), p.2)) (fs.map fun p => ((Sum.inr p.1 : Key), p.2)) → Rp K G (.ref a) (.ins C fs)
inductive RpAll (K : PySem.W.Frag) (G : Hp) : List V → List PD → Prop
  | nil : RpAll K G [] []
  | cons {v : V} {vs : List V} {d : PD} {ds : List PD} : Rp K G v d → RpAll K G vs ds → RpAll K G (v :: vs) (d :: ds)
inductive RpKv (K : PySem.W.Frag) (G : Hp) : List (Key × V) → List (Key × PD) → Prop
  | nil : RpKv K G [] []
  | cons {k : Key} {v : V} {vs : List (Key × V)} {d : PD} {ds : List (Key × PD)} : Rp K G v d → RpKv K G vs ds → RpKv K G ((k, v) :: vs) ((k, d) :: ds)
end
section
variable {K : PySem.W.Frag} {G G' : Hp}
mutual
theorem Rp.mono (e : Ex G G') : ∀ {v : V} {d : PD}, Rp K G v d → Rp K G' v d
  | _, _, .non => .non
  | _, _, .bl b => .bl b
  | _, _, .int i => .int i
  | _, _, .str x => .str x
  | _, _, .lst h r => .lst (e _ _ h nt_lst) (RpAll.mono e r)
  | _, _, .scr h => .scr (ex_l e h)
  | _, _, .tup h r => .tup (ex_t e h) (RpAll.mono e r)
  | _, _, .dct h r => .dct (e _ _ h nt_dK) (RpKv.mono e r)
  | _, _, .err h1 h2 t1 t2 h3 r => .err (e _ _ h1 t1.nt) (e _ _ h2 t2.nt) t1 t2 h3 (Rp.mono e r)
  | _, _, .fn h => .fn (h.trans e)
  | _, _, .ins h1 h2 r => .ins (e _ _ h1 fun _ z => by cases z) (e _ _ h2 fun _ z => by cases z) (RpKv.mono e r)
theorem RpAll.mono (e : Ex G G') : ∀ {vs : List V} {ds : List PD}, RpAll K G vs ds → RpAll K G' vs ds
  | _, _, .nil => .nil
  | _, _, .cons h r => .cons (Rp.mono e h) (RpAll.mono e r)
theorem RpKv.mono (e : Ex G G') : ∀ {vs : List (Key × V)} {ds : List (Key × PD)}, RpKv K G vs ds → RpKv K G' vs ds
  | _, _, .nil => .nil
  | _, _, .cons h r => .cons (Rp.mono e h) (RpKv.mono e r)
end
theorem RpAll.length : ∀ {vs : List V} {ds : List PD}, RpAll K G vs ds → vs.length = ds.length
  | _, _, .nil => rfl
  | _, _, .cons _ r => congrArg (· + 1) (RpAll.length r)
theorem RpAll.append : ∀ {vs ws : List V} {ds es : List PD}, RpAll K G vs ds → RpAll K G ws es → RpAll K G (vs ++ ws) (ds ++ es)
  | _, _, _, _, .nil, s => s
  | _, _, _, _, .cons h r, s => .cons h (RpAll.append r s)
theorem RpAll.get : ∀ {vs : List V} {ds : List PD} {i : Nat} {d : PD}, RpAll K G vs ds → ds[i]? = some d → ∃ v, vs[i]? = some v ∧ Rp K G v d
  | _, _, _, _, .nil, e => by simp at e
  | _, _, 0, _, .cons h _, e => by simp at e; subst e; exact ⟨_, rfl, h⟩
  | _, _, i + 1, d, .cons _ r, e => by
    obtain ⟨v, h1, h2⟩ := RpAll.get (i := i) (d := d) r (by simpa using e)
    exact ⟨v, by simpa using h1, h2⟩
theorem RpAll.set {v : V} {d : PD} (h : Rp K G v d) : ∀ {vs : List V} {ds : List PD} (i : Nat), RpAll K G vs ds → RpAll K G (vs.set i v) (ds.set i d)
  | _, _, _, .nil => .nil
  | _, _, 0, .cons _ r => .cons h r
  | _, _, i + 1, .cons q r => .cons q (RpAll.set h i r)
theorem RpAll.take : ∀ {vs : List V} {ds : List PD} (n : Nat), RpAll K G vs ds → RpAll K G (vs.take n) (ds.take n)
  | _, _, 0, _ => .nil
  | _, _, _ + 1, .nil => .nil
  | _, _, n + 1, .cons h r => .cons h (RpAll.take n r)
theorem RpAll.drop : ∀ {vs : List V} {ds : List PD} (n : Nat), RpAll K G vs ds → RpAll K G (vs.drop n) (ds.drop n)
  | _, _, 0, r => r
  | _, _, _ + 1, .nil => .nil
  | _, _, n + 1, .cons _ r => RpAll.drop n r
theorem RpAll.eraseIdx : ∀ {vs : List V} {ds : List PD} (n : Nat), RpAll K G vs ds → RpAll K G (vs.eraseIdx n) (ds.eraseIdx n)
  | _, _, _, .nil => .nil
  | _, _, 0, .cons _ r => r
  | _, _, n + 1, .cons h r => .cons h (RpAll.eraseIdx n r)
theorem RpAll.dropLast {vs : List V} {ds : List PD} (r : RpAll K G vs ds) : RpAll K G vs.dropLast ds.dropLast := by
  rw [List.dropLast_eq_take, List.dropLast_eq_take, r.length]
  exact r.take _
theorem RpAll.ints : ∀ {vs : List V} {ns : List Int}, RpAll K G vs (ns.map PD.int) → vs = ns.map V.int
  | _, [], .nil => rfl
  | _, n :: ns, .cons (.int _) r => by rw [List.map_cons, RpAll.ints r]
theorem rp_ints : ∀ (ns : List Int), RpAll K G (ns.map V.int) (ns.map PD.int)
  | [] => .nil
  | n :: ns => .cons (.int n) (rp_ints ns)
end

/-- a thing that may change, as it stands -/
inductive RO (K : PySem.W.Frag) (G : Hp) : HO → OD → Prop
  | lst {vs : List V} {ds : List PD} : RpAll K G vs ds → RO K G (.lst vs) (.lst ds)
  | dK {vs : List (Key × V)} {ds : List (Key × PD)} : RpKv K G vs ds → RO K G (.dK vs) (.dK ds)
theorem RO.nt {K : PySem.W.Frag} {G : Hp} : ∀ {o : HO} {d : OD}, RO K G o d → Nt o
  | _, _, .lst _ => nt_lst
  | _, _, .dK _ => nt_dK
theorem RO.ow {K : PySem.W.Frag} {G : Hp} : ∀ {o : HO} {d : OD}, RO K G o d → Ow o
  | _, _, .lst _ => True.intro
  | _, _, .dK _ => True.intro
theorem RO.nc {K : PySem.W.Frag} {G : Hp} : ∀ {o : HO} {d : OD}, RO K G o d → ∀ c q, o ≠ LamX.CodeO c q
  | _, _, .lst _ => fun _ _ z => by unfold LamX.CodeO at z; cases z
  | _, _, .dK _ => fun _ _ z => by unfold LamX.CodeO at z; cases z
theorem RO.mono {K : PySem.W.Frag} {G G' : Hp} (e : Ex G G') : ∀ {o : HO} {d : OD}, RO K G o d → RO K G' o d
  | _, _, .lst r => .lst (r.mono e)
  | _, _, .dK r => .dK (r.mono e)

structure Stp (B : Addr → Prop) (G H G' H' : Hp) : Prop where
  g : Ex G G'
  t : ∀ a ps, G a = some (.tbl ps) → G' a = some (.tbl ps)
  u : ∀ a ps, G' a = some (.tbl ps) → G a = some (.tbl ps)
  h : ∀ a o, B a → H a = some o → Nt o → H' a = some o
  n : ∀ a o, B a → H a = some o → Ow o → G' a = G a
theorem Stp.refl {B : Addr → Prop} {G H : Hp} : Stp B G H G H := ⟨Ex.refl G, fun _ _ h => h, fun _ _ h => h, fun _ _ _ h _ => h, fun _ _ _ _ _ => rfl⟩
theorem Stp.trans {B : Addr → Prop} {G H G1 H1 G2 H2 : Hp} (a : Stp B G H G1 H1) (b : Stp B G1 H1 G2 H2) : Stp B G H G2 H2 :=
  ⟨a.g.trans b.g, fun x ps h => b.t x ps (a.t x ps h), fun x ps h => a.u x ps (b.u x ps h), fun x o hb h n => b.h x o hb (a.h x o hb h n) n, fun x o hb h w => (b.n x o hb (a.h x o hb h w.nt) w).trans (a.n x o hb h w)⟩
theorem Stp.weak {B B' : Addr → Prop} {G H G1 H1 : Hp} (a : Stp B' G H G1 H1) (w : ∀ x, B x → B' x) : Stp B G H G1 H1 :=
  ⟨a.g, a.t, a.u, fun x o hb h => a.h x o (w x hb) h, fun x o hb => a.n x o (w x hb)⟩
/-- what stands through a def's body: the written part F, the tables T of code objects (with the names of what is made there), and the entry: what must not be changed, the stable part, the heap -/
structure KT where
  F : PySem.W.Frag
  T : List (Addr × Str)
  B0 : Addr → Prop
  G0 : Hp
  H0 : Hp
instance : Coe KT PySem.W.Frag := ⟨KT.F⟩
/-- the same, at another entry -/
abbrev KT.at (K : KT) (B : Addr → Prop) (G H : Hp) : KT := ⟨K.F, K.T, B, G, H⟩
/-- since the entry -/
structure Zt (K : KT) (B : Addr → Prop) (G H : Hp) : Prop where
  b : ∀ a, K.B0 a → B a
  s : Stp K.B0 K.G0 K.H0 G H
  m : ∀ p ∈ K.T, G p.1 = some (.tbl #[Value.str p.2 0])
  m2 : ∀ a ps, G a = some (.tbl ps) → ∃ p ∈ K.T, p.1 = a
theorem Zt.step {K : KT} {B : Addr → Prop} {G H G' H' : Hp} (z : Zt K B G H) (S : Stp B G H G' H') : Zt K B G' H' := ⟨z.b, z.s.trans (S.weak z.b), fun p hp => S.t _ _ (z.m p hp), fun a ps h => z.m2 a ps (S.u a ps h)⟩
theorem Zt.more {K : KT} {B B' : Addr → Prop} {G H : Hp} (z : Zt K B G H) (h : ∀ a, B a → B' a) : Zt K B' G H := ⟨fun a k => h a (z.b a k), z.s, z.m, z.m2⟩
theorem Zt.new {K : KT} {B B' : Addr → Prop} {G H : Hp} (z : Zt K B G H) : Zt (K.at B' G H) B' G H := ⟨fun _ h => h, .refl, z.m, z.m2⟩
/-- the slots, the stable part G of the heap, the heap H; B: what must not be changed -/
structure Rep (K : KT) (B : Addr → Prop) (G H : Hp) (σ : L2.St) (ρ : Sl) : Prop where
  gh : Ex G H
  tb : Tb G H
  z : Zt K B G H
  bh : ∀ a, B a → Tr H a
  len : σ.length = ρ.length
  dat : ∀ (i : Nat) (d : PD), ρ[i]? = some (SD.dat d) → ∃ v, σ[i]? = some (some v) ∧ Rp K G v d
  own : ∀ (i : Nat) (o : OD), ρ[i]? = some (SD.own o) → ∃ p ho, σ[i]? = some (some (V.ref p)) ∧ H p = some ho ∧ G p = none ∧ ¬ B p ∧ RO K G ho o
  sep : ∀ (i j : Nat) (o u : OD) (p : Addr), ρ[i]? = some (SD.own o) → ρ[j]? = some (SD.own u) → σ[i]? = some (some (V.ref p)) → σ[j]? = some (some (V.ref p)) → i = j
/-- a result -/
inductive RR (K : KT) (B : Addr → Prop) (G H : Hp) (σ : L2.St) (ρ : Sl) : V → Rz → Prop
  | dat {v : V} {d : PD} : Rp K G v d → RR K B G H σ ρ v (.dat d)
  | own {p : Addr} {ho : HO} {o : OD} : H p = some ho → G p = none → ¬ B p → RO K G ho o → (∀ (i : Nat) (u : OD), ρ[i]? = some (SD.own u) → σ[i]? ≠ some (some (V.ref p))) → RR K B G H σ ρ (.ref p) (.own o)
  | bor {v : V} {i : Nat} : σ[i]? = some (some v) → RR K B G H σ ρ v (.bor i)

section
variable {K : KT} {B : Addr → Prop} {G H G' H' : Hp} {σ : L2.St} {ρ : Sl}
/-- a thing of one's own at p is made stable -/
theorem Rep.stable {p : Addr} {ho : HO} {o : OD} {d : PD} (r : Rep K B G H σ ρ) (hp : H p = some ho) (hg : G p = none) (hb : ¬ B p) (ro : RO K G ho o) (hd : o.pd = some d)
    (hs : ∀ (i : Nat) (u : OD), ρ[i]? = some (SD.own u) → σ[i]? ≠ some (some (V.ref p))) : Rep K B (upd G p ho) H σ ρ ∧ Rp K (upd G p ho) (V.ref p) d ∧ Stp B G H (upd G p ho) H := by
  have e : Ex G (upd G p ho) := Ex.new hg
  have nt : Nt ho := ro.nt
  have S : Stp B G H (upd G p ho) H := ⟨e, fun a ps h => by rw [upd_ne (ne_of_none h hg)]; exact h, fun a ps h => mark_old nt h, fun _ _ _ h _ => h, fun a _ hb' _ _ => upd_ne fun z => hb (z ▸ hb')⟩
  refine ⟨⟨fun a u h n => ?_, r.tb.mark nt, r.z.step S, r.bh, r.len, fun i d h => ?_, fun i o h => ?_, r.sep⟩, ?_, S⟩
  · by_cases z : a = p
    · subst z; rw [upd_same] at h; cases h; exact hp
    · rw [upd_ne z] at h; exact r.gh a u h n
  · obtain ⟨v, h1, h2⟩ := r.dat i d h
    exact ⟨v, h1, h2.mono e⟩
  · obtain ⟨q, hq, h1, h2, h3, h4, h5⟩ := r.own i o h
    refine ⟨q, hq, h1, h2, ?_, h4, h5.mono e⟩
    rw [upd_ne (fun z => hs i o h (by rw [h1, z]))]; exact h3
  · cases ro with
    | lst q => cases hd; exact .lst upd_same (q.mono e)
    | dK q => cases hd; exact .dct upd_same (q.mono e)
/-- the slot i, that holds a thing of its own, is made stable -/
theorem Rep.freeze {i : Nat} {o : OD} {d : PD} (r : Rep K B G H σ ρ) (hi : ρ[i]? = some (SD.own o)) (hd : o.pd = some d) :
    ∃ v G', σ[i]? = some (some v) ∧ Rep K B G' H σ (ρ.set i (SD.dat d)) ∧ Rp K G' v d ∧ Stp B G H G' H := by
  obtain ⟨p, ho, h1, h2, h3, h4, h5⟩ := r.own i o hi
  have hil : i < ρ.length := (List.getElem?_eq_some_iff.mp hi).1
  have get : ∀ j, j ≠ i → (ρ.set i (SD.dat d))[j]? = ρ[j]? := fun j hj => List.getElem?_set_ne (Ne.symm hj)
  have r1 : Rep K B G H σ (ρ.set i SD.emp) := by
    refine ⟨r.gh, r.tb, r.z, r.bh, by rw [List.length_set]; exact r.len, fun j d' h => ?_, fun j o' h => ?_, fun j k o' u q a b c d' => ?_⟩
    · by_cases z : j = i
      · subst z; rw [List.getElem?_set_self hil] at h; cases h
      · rw [List.getElem?_set_ne (Ne.symm z)] at h; exact r.dat j d' h
    · by_cases z : j = i
      · subst z; rw [List.getElem?_set_self hil] at h; cases h
      · rw [List.getElem?_set_ne (Ne.symm z)] at h; exact r.own j o' h
    · by_cases z : j = i
      · subst z; rw [List.getElem?_set_self hil] at a; cases a
      · by_cases z' : k = i
        · subst z'; rw [List.getElem?_set_self hil] at b; cases b
        · rw [List.getElem?_set_ne (Ne.symm z)] at a
          rw [List.getElem?_set_ne (Ne.symm z')] at b
          exact r.sep j k o' u q a b c d'
  obtain ⟨a, b, c⟩ := r1.stable h2 h3 h4 h5 hd (fun j u hj hz => by
    by_cases z : j = i
    · subst z; rw [List.getElem?_set_self hil] at hj; cases hj
    · rw [List.getElem?_set_ne (Ne.symm z)] at hj
      exact z (r.sep j i u o p hj hi hz h1))
  refine ⟨.ref p, _, h1, ⟨a.gh, a.tb, a.z, a.bh, by rw [List.length_set]; exact r.len, fun j d' h => ?_, fun j o' h => ?_, fun j k o' u q x y z w => ?_⟩, b, c⟩
  · by_cases z : j = i
    · subst z; rw [List.getElem?_set_self hil] at h; cases h; exact ⟨_, h1, b⟩
    · rw [List.getElem?_set_ne (Ne.symm z)] at h
      exact a.dat j d' (by rw [List.getElem?_set_ne (Ne.symm z)]; exact h)
  · by_cases z : j = i
    · subst z; rw [List.getElem?_set_self hil] at h; cases h
    · rw [List.getElem?_set_ne (Ne.symm z)] at h
      exact a.own j o' (by rw [List.getElem?_set_ne (Ne.symm z)]; exact h)
  · by_cases z1 : j = i
    · subst z1; rw [List.getElem?_set_self hil] at x; cases x
    · by_cases z2 : k = i
      · subst z2; rw [List.getElem?_set_self hil] at y; cases y
      · rw [List.getElem?_set_ne (Ne.symm z1)] at x
        rw [List.getElem?_set_ne (Ne.symm z2)] at y
        exact r.sep j k o' u q x y z w
end
/-- an exception's way out: the class, the value -/
abbrev Xp := Addr → PD → Prop
def noX : Xp := fun _ _ => False
/-- how what is wanted of data (Ξ) makes what is wanted of the machine (W), of an exception that leaves behind the entry B0, G0, H0 -/
def Lk (KF : PySem.W.Frag) (B0 : Addr → Prop) (G0 H0 : Hp) (Ξ : Xp) (W : WX) : Prop := ∀ (G H : Hp) (σ : L2.St) (C d : Addr) (fs : List (Str × V)) (v : V) (u : PD), Stp B0 G0 H0 G H → (∀ a, B0 a → Tr H a) → Tb G H → Ex G H → H d = some (.xd fs) → G d = some (.xd fs) → fs.lookup ("value" : Str) = some v → Rp KF G v u → Ξ C u → W (.ref C) (some d) σ H
theorem lk_no {KF : PySem.W.Frag} {B0 : Addr → Prop} {G0 H0 : Hp} {W : WX} : Lk KF B0 G0 H0 noX W := fun _ _ _ _ _ _ _ _ _ _ _ _ _ _ _ _ h => h.elim
/-- the context, with what stands through it and what is wanted of an exception that leaves it -/
structure CxT where
  cx : Cx
  T : List (Addr × Str)
  B0 : Addr → Prop
  G0 : Hp
  H0 : Hp
  Ξ : Xp
  W : WX
  po : PassesOwn (model cx.prog cx.w) cx.A cx.env cx.xe
  tk : Takes cx W
  lk : Lk cx.K B0 G0 H0 Ξ W
instance : Coe CxT Cx := ⟨CxT.cx⟩
namespace CxT
variable (X : CxT)
abbrev K : KT := ⟨X.cx.K, X.T, X.B0, X.G0, X.H0⟩
abbrev prog : Program := X.cx.prog
abbrev w : World := X.cx.w
abbrev mg : Str → Option Value := X.cx.mg
abbrev base : Heap := X.cx.base
abbrev A : Around := X.cx.A
abbrev N : List Str := X.cx.N
abbrev s_0 : Shared := X.cx.s_0
abbrev H_0 : Hp := X.cx.H_0
abbrev env : PySem.Env := X.cx.env
abbrev stack : List PySem.Env := X.cx.stack
abbrev fn : Str → Bool := X.cx.fn
abbrev fs : List Addr := X.cx.fs
abbrev ex : List Addr := X.cx.ex
abbrev outer : List PySem.Env := X.cx.outer
abbrev calm : Bool := X.cx.calm
abbrev xe : Value → Shared → Prop := X.cx.xe
/-- a comprehension's block -/
abbrev blk (s : Shared) (H : Hp) (scope : Scope) (cenv : PySem.Env) (fp : List Addr) : CxT :=
  ⟨X.cx.blk s H scope cenv fp, X.T, X.B0, X.G0, X.H0, noX, fun _ _ _ _ => False, PassesOwn.never, takes0, lk_no⟩
end CxT
end DL

set_option Elab.async false
set_option linter.all false
set_option maxRecDepth 100000
set_option maxHeartbeats 2000000
namespace DL
open PySem L2

abbrev We := Sl → (Rz → Sl → Prop) → Prop
abbrev Wt := Sl → (Bool → Sl → Prop) → Prop
abbrev Wa := Sl → (List Rz → Sl → Prop) → Prop

def WE (K : KT) (te : TE) (w : We) : Prop := ∀ (B : Addr → Prop) (G H : Hp) (σ : L2.St) (ρ : Sl) (Q : Rz → Sl → Prop) (QV : VK), Rep K B G H σ ρ → w ρ Q →
  (∀ v G' H' ρ' r, Stp B G H G' H' → Rep K B G' H' σ ρ' → RR K B G' H' σ ρ' v r → Q r ρ' → QV v H') → te σ H QV
def WTt (K : KT) (tt : TT) (w : Wt) : Prop := ∀ (B : Addr → Prop) (G H : Hp) (σ : L2.St) (ρ : Sl) (Q : Bool → Sl → Prop) (QV : Bool → Hp → Prop), Rep K B G H σ ρ → w ρ Q →
  (∀ b G' H' ρ', Stp B G H G' H' → Rep K B G' H' σ ρ' → Q b ρ' → QV b H') → tt σ H QV
/-- a result that stays as it is while others are reckoned -/
def Rz.cold : Rz → Bool
  | .own _ => false
  | _ => true
inductive RRs (K : KT) (B : Addr → Prop) (G H : Hp) (σ : L2.St) (ρ : Sl) : List V → List Rz → Prop
  | nil : RRs K B G H σ ρ [] []
  | cons {v : V} {vs : List V} {r : Rz} {rs : List Rz} : RR K B G H σ ρ v r → r.cold = true → RRs K B G H σ ρ vs rs → RRs K B G H σ ρ (v :: vs) (r :: rs)
def WAa (K : KT) (ta : TA) (w : Wa) : Prop := ∀ (B : Addr → Prop) (G H : Hp) (σ : L2.St) (ρ : Sl) (Q : List Rz → Sl → Prop) (QV : List V → Hp → Prop), Rep K B G H σ ρ → w ρ Q →
  (∀ vs G' H' ρ' rs, Stp B G H G' H' → Rep K B G' H' σ ρ' → RRs K B G' H' σ ρ' vs rs → Q rs ρ' → QV vs H') → ta σ H QV
structure DE (X : CxT) (e : Expr) (te : TE) (w : We) : Prop where
  pe : PE X e te
  we : WE X.K te w
structure DT (X : CxT) (e : Expr) (tt : TT) (w : Wt) : Prop where
  pt : PT X e tt
  wt : WTt X.K tt w
structure DA (X : CxT) (es : List Expr) (ta : TA) (w : Wa) : Prop where
  pa : PA X es ta
  wa : WAa X.K ta w

/-! ### a result, read -/
def SD.pd : SD → Option PD
  | .emp => none
  | .dat d => some d
  | .own o => o.pd
def Rz.pd (r : Rz) (ρ : Sl) : Option PD := match r with
  | .dat d => some d
  | .own o => o.pd
  | .bor i => (ρ[i]?).bind SD.pd
def ok {α : Type} (o : Option α) (k : α → Prop) : Prop := match o with
  | some a => k a
  | none => False
def look (r : Rz) (ρ : Sl) (k : PD → Prop) : Prop := ok (r.pd ρ) k
/-- a result, frozen: a temporary becomes a datum -/
def Rz.cool : Rz → Rz
  | .own o => match o.pd with
    | some d => .dat d
    | none => .dat .non
  | r => r
/-- how a value is seen: a datum, or a thing that may change as it stands now -/
def Vw (K : KT) (G H : Hp) (v : V) (d : PD) : Prop := Rp K G v d ∨ ∃ p ho o, v = .ref p ∧ H p = some ho ∧ RO K G ho o ∧ o.pd = some d

theorem ok_some {α : Type} {o : Option α} {k : α → Prop} (h : ok o k) : ∃ a, o = some a ∧ k a := by
  cases o with
  | none => exact h.elim
  | some a => exact ⟨a, rfl, h⟩
section
variable {K : KT} {B : Addr → Prop} {G H G' H' : Hp} {σ : L2.St} {ρ ρ' : Sl} {v : V} {r : Rz} {d : PD}
theorem RR.vw (R : Rep K B G H σ ρ) (h : RR K B G H σ ρ v r) (e : r.pd ρ = some d) : Vw K G H v d := by
  cases h with
  | dat q => cases e; exact .inl q
  | own h1 h2 h3 h4 h5 => exact .inr ⟨_, _, _, rfl, h1, h4, e⟩
  | bor q =>
    rename_i i
    have e : (ρ[i]?).bind SD.pd = some d := e
    cases hi : ρ[i]? with
    | none => rw [hi] at e; cases e
    | some s =>
      rw [hi] at e
      cases s with
      | emp => cases e
      | dat d' =>
        obtain ⟨w, h1, h2⟩ := R.dat _ _ hi
        rw [q] at h1; cases h1
        cases e
        exact .inl h2
      | own o =>
        obtain ⟨p, ho, h1, h2, h3, h4, h5⟩ := R.own _ _ hi
        rw [q] at h1; cases h1
        exact .inr ⟨p, ho, o, rfl, h2, h5, e⟩
theorem RR.cool (R : Rep K B G H σ ρ) (h : RR K B G H σ ρ v r) (hd : r.cold = true ∨ ∃ d, r.pd ρ = some d) : ∃ G1, Stp B G H G1 H ∧ Rep K B G1 H σ ρ ∧ RR K B G1 H σ ρ v r.cool ∧ r.cool.cold = true ∧ ∀ ρ1, r.cool.pd ρ1 = r.pd ρ1 := by
  cases h with
  | dat q => exact ⟨G, .refl, R, .dat q, rfl, fun _ => rfl⟩
  | bor q => exact ⟨G, .refl, R, .bor q, rfl, fun _ => rfl⟩
  | own h1 h2 h3 h4 h5 =>
    rename_i p ho o
    obtain ⟨d, e⟩ : ∃ d, o.pd = some d := by
      rcases hd with z | ⟨d, z⟩
      · cases z
      · exact ⟨d, z⟩
    obtain ⟨a, b, c⟩ := R.stable h1 h2 h3 h4 e h5
    have ec : (Rz.own o).cool = .dat d := by show (match o.pd with | some d => Rz.dat d | none => .dat .non) = _; rw [e]
    rw [ec]
    exact ⟨_, c, a, .dat b, rfl, fun _ => e.symm⟩
theorem RR.stay (h : RR K B G H σ ρ v r) (hc : r.cold = true) (e : Ex G G') : RR K B G' H' σ ρ' v r := by
  cases h with
  | dat q => exact .dat (q.mono e)
  | bor q => exact .bor q
  | own => cases hc
theorem RRs.stay : ∀ {vs : List V} {rs : List Rz}, RRs K B G H σ ρ vs rs → Ex G G' → RRs K B G' H' σ ρ' vs rs
  | _, _, .nil, _ => .nil
  | _, _, .cons h c t, e => .cons (h.stay c e) c (RRs.stay t e)
end

/-! ### names, constants -/
section
variable {X : CxT} {K : KT}
def wVar (i : Nat) : We := fun ρ Q => match ρ[i]? with
  | some (.dat d) => Q (.dat d) ρ
  | some (.own _) => Q (.bor i) ρ
  | _ => False
theorem we_var {i : Nat} : WE K (tVar i) (wVar i) := fun B G H σ ρ Q QV R h k => by
  unfold wVar at h
  cases hi : ρ[i]? with
  | none => rw [hi] at h; exact h.elim
  | some s =>
    rw [hi] at h
    cases s with
    | emp => exact h.elim
    | dat d =>
      obtain ⟨v, h1, h2⟩ := R.dat _ _ hi
      exact ⟨v, h1, k v G H ρ _ .refl R (.dat h2) h⟩
    | own o =>
      obtain ⟨p, ho, h1, _⟩ := R.own _ _ hi
      exact ⟨_, h1, k _ G H ρ _ .refl R (.bor h1) h⟩
def wC (d : PD) : We := fun ρ Q => Q (.dat d) ρ
theorem we_c {v : V} {d : PD} (h : ∀ G, Rp K G v d) : WE K (tC v) (wC d) := fun B G H σ ρ Q QV R q k => k v G H ρ _ .refl R (.dat (h G)) q
theorem de_int {i j pos} : DE X (.Constant (.int i) j pos) (tC (.int i)) (wC (.int i)) := ⟨pe_int, we_c fun _ => .int i⟩
theorem de_bl {b j pos} : DE X (.Constant (.bool b) j pos) (tC (.bl b)) (wC (.bl b)) := ⟨pe_bl, we_c fun _ => .bl b⟩
theorem de_non {j pos} : DE X (.Constant .none j pos) (tC .non) (wC .non) := ⟨pe_non, we_c fun _ => .non⟩
theorem de_str {x j pos} : DE X (.Constant (.str x) j pos) (tC (.str x)) (wC (.str x)) := ⟨pe_str, we_c fun _ => .str x⟩
theorem dv (i : Nat) {x : Str} {pos : Pos} (hN : X.N[i]? = some x := by rfl) (hv : Vis X.env.scope x := by first | exact Or.inl rfl | exact Or.inr (Or.inl rfl) | exact Or.inr (Or.inr rfl)) (hd : (x == ("__debug__" : Str)) = false := by decide)
    (hcd : (x == ("__classdict__" : Str)) = false := by decide) : DE X (.Name x pos) (tVar i) (wVar i) := ⟨pe_var hN hv hd hcd, we_var⟩
/-- a constant of the module -/
theorem de_glob {x : Str} {v : V} {u : Value} {d : PD} {pos : Pos} (hg : Gl X x) (hm : X.mg x = some u) (r : RelV v u) (h : ∀ G, Rp X.K G v d) (hd : (x == ("__debug__" : Str)) = false := by decide) : DE X (.Name x pos) (tC v) (wC d) :=
  ⟨pe_glob hg hm r hd, we_c h⟩

/-! ### two operands, one operand -/
/-- what an operation asks of two data, and what it gives -/
abbrev D2 := PD → PD → (Rz → Prop) → Prop
abbrev D1 := PD → (Rz → Prop) → Prop
abbrev Dn := List PD → (Rz → Prop) → Prop
def Gv (K : KT) (B : Addr → Prop) (G H : Hp) (σ : L2.St) (ρ : Sl) (Q : Rz → Prop) (QV : VK) : Prop :=
  ∀ v G' H' r, Stp B G H G' H' → Rep K B G' H' σ ρ → RR K B G' H' σ ρ v r → Q r → QV v H'
def Ok2 (K : KT) (r : R2) (D : D2) : Prop := ∀ (B : Addr → Prop) (G H : Hp) (σ : L2.St) (ρ : Sl) (x y : V) (dx dy : PD) (Q : Rz → Prop) (QV : VK),
  Rep K B G H σ ρ → Vw K G H x dx → Vw K G H y dy → D dx dy Q → Gv K B G H σ ρ Q QV → r x y H QV
def Ok1 (K : KT) (r : V → Hp → VK → Prop) (D : D1) : Prop := ∀ (B : Addr → Prop) (G H : Hp) (σ : L2.St) (ρ : Sl) (x : V) (dx : PD) (Q : Rz → Prop) (QV : VK),
  Rep K B G H σ ρ → Vw K G H x dx → D dx Q → Gv K B G H σ ρ Q QV → r x H QV
def wBin (D : D2) (wa wb : We) : We := fun ρ Q => wa ρ fun ra ρ1 => (ra.cold = true ∨ ∃ d, ra.pd ρ1 = some d) ∧ wb ρ1 fun rb ρ2 => look ra ρ2 fun x => look rb ρ2 fun y => D x y fun r => Q r ρ2
def wUn (D : D1) (wa : We) : We := fun ρ Q => wa ρ fun ra ρ1 => look ra ρ1 fun x => D x fun r => Q r ρ1
theorem we_bin {r : R2} {D : D2} {ta tb : TE} {wa wb : We} (h : Ok2 K r D) (ha : WE K ta wa) (hb : WE K tb wb) : WE K (tOp r ta tb) (wBin D wa wb) := fun B G H σ ρ Q QV R q k => by
  refine ha B G H σ ρ _ _ R q fun v G1 H1 ρ1 ra S1 R1 rr1 ⟨c1, q1⟩ => ?_
  obtain ⟨G1', S1', R1', rr1', cc, ec⟩ := rr1.cool R1 c1
  refine hb B G1' H1 σ ρ1 _ _ R1' q1 fun u G2 H2 ρ2 rb S2 R2 rr2 q2 => ?_
  obtain ⟨x, ex, q2⟩ := ok_some q2
  obtain ⟨y, ey, q2⟩ := ok_some q2
  refine h B G2 H2 σ ρ2 v u x y (fun r => Q r ρ2) QV R2 ((rr1'.stay cc S2.g).vw R2 ((ec ρ2).trans ex)) (rr2.vw R2 ey) q2 fun w G3 H3 res S3 R3 rr3 q3 => ?_
  exact k w G3 H3 ρ2 res (((S1.trans S1').trans S2).trans S3) R3 rr3 q3
theorem we_un {r : V → Hp → VK → Prop} {D : D1} {ta : TE} {wa : We} (h : Ok1 K r D) (ha : WE K ta wa) : WE K (tUn r ta) (wUn D wa) := fun B G H σ ρ Q QV R q k => by
  refine ha B G H σ ρ _ _ R q fun v G1 H1 ρ1 ra S1 R1 rr1 q1 => ?_
  obtain ⟨x, ex, q1⟩ := ok_some q1
  refine h B G1 H1 σ ρ1 v x (fun r => Q r ρ1) QV R1 (rr1.vw R1 ex) q1 fun w G3 H3 res S3 R3 rr3 q3 => ?_
  exact k w G3 H3 ρ1 res (S1.trans S3) R3 rr3 q3
theorem Gv.dat {B : Addr → Prop} {G H : Hp} {σ : L2.St} {ρ : Sl} {Q : Rz → Prop} {QV : VK} (k : Gv K B G H σ ρ Q QV) (R : Rep K B G H σ ρ) {v : V} {d : PD} (h : Rp K G v d) (q : Q (.dat d)) : QV v H :=
  k v G H _ .refl R (.dat h) q
theorem nb_ne {B : Addr → Prop} {p a : Addr} (nb : ¬ B p) (hb : B a) : a ≠ p := fun z => nb (z ▸ hb)
/-- a new thing -/
theorem Gv.new {B : Addr → Prop} {G H : Hp} {σ : L2.St} {ρ : Sl} {Q : Rz → Prop} {QV : VK} (k : Gv K B G H σ ρ Q QV) (R : Rep K B G H σ ρ) {p : Addr} (hp : H p = none) {ho : HO} {o : OD} (h : RO K G ho o) (q : Q (.own o)) : QV (.ref p) (upd H p ho) := by
  have gp : G p = none := R.gh.free R.tb hp
  have nb : ¬ B p := fun z => (R.bh p z).no hp
  have S1 : Stp B G H G (upd H p ho) := ⟨Ex.refl G, fun _ _ h => h, fun _ _ h => h, fun a o hb h _ => by rw [upd_ne (nb_ne nb hb)]; exact h, fun _ _ _ _ _ => rfl⟩
  have R1 : Rep K B G (upd H p ho) σ ρ := by
    refine ⟨R.gh.right gp, R.tb.new hp, R.z.step S1, fun a hb => ?_, R.len, R.dat, fun i u hi => ?_, R.sep⟩
    · exact (R.bh a hb).upd (nb_ne nb hb)
    · obtain ⟨q, hq, h1, h2, h3, h4, h5⟩ := R.own i u hi
      exact ⟨q, hq, h1, by rw [upd_ne (ne_of_none h2 hp)]; exact h2, h3, h4, h5⟩
  refine k (.ref p) G (upd H p ho) _ S1 R1 (.own upd_same gp nb h fun i u hi hz => ?_) q
  · obtain ⟨q, hq, h1, h2, _⟩ := R.own i u hi
    rw [h1] at hz
    cases hz
    rw [hp] at h2; cases h2
/-- a new tuple: a datum at once -/
theorem Gv.tup {B : Addr → Prop} {G H : Hp} {σ : L2.St} {ρ : Sl} {Q : Rz → Prop} {QV : VK} (k : Gv K B G H σ ρ Q QV) (R : Rep K B G H σ ρ) {p : Addr} (hp : H p = none) {xs : List V} {ds : List PD} (h : RpAll K G xs ds) (q : Q (.dat (.tup ds))) : QV (.ref p) (upd H p (.tup xs)) := by
  have gp : G p = none := R.gh.free R.tb hp
  have nb : ¬ B p := fun z => (R.bh p z).no hp
  have e : Ex G (upd G p (.tup xs)) := Ex.new gp
  have S1 : Stp B G H (upd G p (.tup xs)) (upd H p (.tup xs)) := ⟨e, fun a ps h => by rw [upd_ne (ne_of_none h gp)]; exact h, fun a ps h => mark_old nt_tup h, fun a o hb h _ => by rw [upd_ne (nb_ne nb hb)]; exact h, fun a _ hb _ _ => upd_ne (nb_ne nb hb)⟩
  have R1 : Rep K B (upd G p (.tup xs)) (upd H p (.tup xs)) σ ρ := by
    refine ⟨R.gh.both gp, (R.tb.new hp).mark nt_tup, R.z.step S1, fun a hb => ?_, R.len, fun i d hi => ?_, fun i u hi => ?_, R.sep⟩
    · exact (R.bh a hb).upd (nb_ne nb hb)
    · obtain ⟨v, h1, h2⟩ := R.dat i d hi
      exact ⟨v, h1, h2.mono e⟩
    · obtain ⟨q, hq, h1, h2, h3, h4, h5⟩ := R.own i u hi
      have z := ne_of_none h2 hp
      exact ⟨q, hq, h1, by rw [upd_ne z]; exact h2, by rw [upd_ne z]; exact h3, h4, h5.mono e⟩
  exact k (.ref p) _ _ _ S1 R1 (.dat (.tup (Or.inl (Or.inl upd_same)) (h.mono e))) q

/-! ### what a seen value is -/
section
variable {G H : Hp} {v : V}
theorem Vw.int {i : Int} (h : Vw K G H v (.int i)) : v = .int i := by
  rcases h with h | ⟨p, ho, o, rfl, h1, h2, h3⟩
  · cases h; rfl
  · cases h2 <;> cases h3
theorem Vw.bl {b : Bool} (h : Vw K G H v (.bl b)) : v = .bl b := by
  rcases h with h | ⟨p, ho, o, rfl, h1, h2, h3⟩
  · cases h; rfl
  · cases h2 <;> cases h3
theorem Vw.non (h : Vw K G H v .non) : v = .non := by
  rcases h with h | ⟨p, ho, o, rfl, h1, h2, h3⟩
  · cases h; rfl
  · cases h2 <;> cases h3
theorem Vw.str {x : Str} (h : Vw K G H v (.str x)) : v = .str x := by
  rcases h with h | ⟨p, ho, o, rfl, h1, h2, h3⟩
  · cases h; rfl
  · cases h2 <;> cases h3
theorem Vw.lst {ds : List PD} (e : Ex G H) (h : Vw K G H v (.lst ds)) : ∃ a xs, v = .ref a ∧ H a = some (.lst xs) ∧ RpAll K G xs ds := by
  rcases h with h | ⟨p, ho, o, rfl, h1, h2, h3⟩
  · cases h with
    | lst s r => exact ⟨_, _, rfl, e _ _ s nt_lst, r⟩
  · cases h2 with
    | lst r => cases h3; exact ⟨p, _, rfl, h1, r⟩
    | dK r => cases h3
theorem Vw.scr {ns : List Int} (e : Ex G H) (h : Vw K G H v (.scr ns)) : ∃ a, v = .ref a ∧ SqL K H a (ns.map V.int) := by
  rcases h with h | ⟨p, ho, o, rfl, h1, h2, h3⟩
  · cases h with
    | scr s => exact ⟨_, rfl, ex_l e s⟩
  · cases h2 <;> cases h3
theorem Vw.tup {ds : List PD} (e : Ex G H) (h : Vw K G H v (.tup ds)) : ∃ a xs, v = .ref a ∧ SqT K H a xs ∧ RpAll K G xs ds := by
  rcases h with h | ⟨p, ho, o, rfl, h1, h2, h3⟩
  · cases h with
    | tup s r => exact ⟨_, _, rfl, ex_t e s, r⟩
  · cases h2 <;> cases h3
end
end
end DL

set_option Elab.async false
set_option linter.all false
set_option maxRecDepth 100000
set_option maxHeartbeats 2000000
namespace DL
open PySem L2
section
variable {X : CxT} {K : KT}
/-! ### arithmetic -/
def rOr (r r' : R2) : R2 := fun x y H Q => r x y H Q ∨ r' x y H Q
theorem or_ok {f : Value → Value → Sem Value} {r r' : R2} (h : OpR X f r) (h' : OpR X f r') : OpR X f (rOr r r') := h.or h'
def dI (C : Int → Int → Prop) (g : Int → Int → PD) : D2 := fun x y k => match x, y with
  | .int i, .int j => C i j ∧ k (.dat (g i j))
  | _, _ => False
theorem ok2_I {C : Int → Int → Prop} {g : Int → Int → V} {gd : Int → Int → PD} (h : ∀ i j G, Rp K G (g i j) (gd i j)) : Ok2 K (rI C g) (dI C gd) := by
  intro B G H σ ρ x y dx dy Q QV R vx vy q k
  cases dx with
  | int i =>
    cases dy with
    | int j =>
      obtain ⟨c, q⟩ := q
      exact ⟨i, j, vx.int, vy.int, c, k.dat R (h i j G) q⟩
    | _ => exact q.elim
  | _ => exact q.elim
def dI0 (g : Int → Int → PD) : D2 := fun x y k => match x, y with
  | .int i, .int j => k (.dat (g i j))
  | _, _ => False
theorem ok2_I0 {g : Int → Int → V} {gd : Int → Int → PD} (h : ∀ i j G, Rp K G (g i j) (gd i j)) : Ok2 K (rI0 g) (dI0 gd) := by
  intro B G H σ ρ x y dx dy Q QV R vx vy q k
  cases dx with
  | int i =>
    cases dy with
    | int j => exact ⟨i, j, vx.int, vy.int, k.dat R (h i j G) q⟩
    | _ => exact q.elim
  | _ => exact q.elim
/-- + -/
def rAddS : R2 := fun x y H Q => ∃ i j, x = .str i ∧ y = .str j ∧ i.length + j.length ≤ sizeLine ∧ Q (.str (i ++ j)) H
def rAdd4 (K : PySem.W.Frag) : R2 := rOr (rI0 fun i j => .int (i + j)) (rOr rAddS (rOr rCat (rCatA K)))
theorem op_add4 : OpR X (binaryOp .Add) (rAdd4 X.K) := or_ok op_add (or_ok op_add_str (or_ok op_cat op_catA))
def dAdd : D2 := fun x y k => match x, y with
  | .int i, .int j => k (.dat (.int (i + j)))
  | .str a, .str b => a.length + b.length ≤ sizeLine ∧ k (.dat (.str (a ++ b)))
  | .lst a, .lst b => a.length + b.length ≤ sizeLine ∧ k (.own (.lst (a ++ b)))
  | .tup a, .tup b => a.length + b.length ≤ sizeLine ∧ k (.dat (.tup (a ++ b)))
  | _, _ => False
theorem Vw.tupR {G H : Hp} {v : V} {ds : List PD} (h : Vw K G H v (.tup ds)) : Rp K G v (.tup ds) := by
  rcases h with h | ⟨p, ho, o, rfl, h1, h2, h3⟩
  · exact h
  · cases h2 <;> cases h3
theorem ok2_add : Ok2 K (rAdd4 K) dAdd := by
  intro B G H σ ρ x y dx dy Q QV R vx vy q k
  cases dx with
  | int i =>
    cases dy with
    | int j => exact .inl ⟨i, j, vx.int, vy.int, k.dat R (.int _) q⟩
    | _ => exact q.elim
  | str a =>
    cases dy with
    | str b => exact .inr (.inl ⟨a, b, vx.str, vy.str, q.1, k.dat R (.str _) q.2⟩)
    | _ => exact q.elim
  | lst a =>
    cases dy with
    | lst b =>
      obtain ⟨p, xs, rfl, hp, rx⟩ := vx.lst R.gh
      obtain ⟨p', ys, rfl, hp', ry⟩ := vy.lst R.gh
      exact .inr (.inr (.inl ⟨p, p', xs, ys, rfl, rfl, hp, hp', by rw [rx.length, ry.length]; exact q.1, fun n hn => k.new R hn (.lst (rx.append ry)) q.2⟩))
    | _ => exact q.elim
  | tup a =>
    cases dy with
    | tup b =>
      have wx := vx.tupR
      have wy := vy.tupR
      obtain ⟨p, xs, rfl, hp, rx⟩ := vx.tup R.gh
      obtain ⟨p', ys, rfl, hp', ry⟩ := vy.tup R.gh
      refine .inr (.inr (.inr ⟨p, p', xs, ys, rfl, rfl, hp, hp', by rw [rx.length, ry.length]; exact q.1, fun e => ?_, fun _ e => ?_, fun _ _ n hn => k.tup R hn (rx.append ry) q.2⟩))
      · subst e
        cases rx
        exact k.dat R wy q.2
      · subst e
        cases ry
        exact k.dat R wx (by have := q.2; rw [List.append_nil] at this; exact this)
    | _ => exact q.elim
  | _ => exact q.elim
/-- ** -/
def CPowX (i j : Int) : Prop := 0 ≤ j ∧ (Builtin.Int.intBits i : Int) * j ≤ 2 ^ 27
theorem op_powX : OpR X (binaryOp .Pow) (rI CPowX fun i j => .int (i ^ j.toNat)) := opI fun _ _ _ _ _ _ _ hc q => PyProof.Rows.pow_int hc.1 hc.2 q

variable {a b : Expr} {ta tb : TE} {wa wb : We} {pos : Pos}
theorem de_add (ha : DE X a ta wa) (hb : DE X b tb wb) : DE X (.BinOp a .Add b pos) (tOp (rAdd4 X.K) ta tb) (wBin dAdd wa wb) := ⟨pe_op op_add4 ha.pe hb.pe, we_bin ok2_add ha.we hb.we⟩
theorem de_sub (ha : DE X a ta wa) (hb : DE X b tb wb) : DE X (.BinOp a .Sub b pos) (tOp (rI0 fun i j => .int (i - j)) ta tb) (wBin (dI0 fun i j => .int (i - j)) wa wb) := ⟨pe_op op_sub ha.pe hb.pe, we_bin (ok2_I0 fun _ _ _ => .int _) ha.we hb.we⟩
theorem de_mul (ha : DE X a ta wa) (hb : DE X b tb wb) : DE X (.BinOp a .Mult b pos) (tOp (rI CMulX fun i j => .int (i * j)) ta tb) (wBin (dI CMulX fun i j => .int (i * j)) wa wb) := ⟨pe_op op_mulX ha.pe hb.pe, we_bin (ok2_I fun _ _ _ => .int _) ha.we hb.we⟩
theorem de_fdiv (ha : DE X a ta wa) (hb : DE X b tb wb) : DE X (.BinOp a .FloorDiv b pos) (tOp (rI CDivW fun i j => .int (i / j)) ta tb) (wBin (dI CDivW fun i j => .int (i / j)) wa wb) := ⟨pe_op op_fdivW ha.pe hb.pe, we_bin (ok2_I fun _ _ _ => .int _) ha.we hb.we⟩
def CPos (_ j : Int) : Prop := 0 < j
theorem de_mod (ha : DE X a ta wa) (hb : DE X b tb wb) : DE X (.BinOp a .Mod b pos) (tOp (rI CPos fun i j => .int (i % j)) ta tb) (wBin (dI CPos fun i j => .int (i % j)) wa wb) := ⟨pe_op op_mod ha.pe hb.pe, we_bin (ok2_I fun _ _ _ => .int _) ha.we hb.we⟩
theorem de_pow (ha : DE X a ta wa) (hb : DE X b tb wb) : DE X (.BinOp a .Pow b pos) (tOp (rI CPowX fun i j => .int (i ^ j.toNat)) ta tb) (wBin (dI CPowX fun i j => .int (i ^ j.toNat)) wa wb) := ⟨pe_op op_powX ha.pe hb.pe, we_bin (ok2_I fun _ _ _ => .int _) ha.we hb.we⟩
def CNn (_ j : Int) : Prop := 0 ≤ j
theorem de_shr (ha : DE X a ta wa) (hb : DE X b tb wb) : DE X (.BinOp a .RShift b pos) (tOp (rI CNn fun i j => .int (i / 2 ^ j.toNat)) ta tb) (wBin (dI CNn fun i j => .int (i / 2 ^ j.toNat)) wa wb) := ⟨pe_op op_shr ha.pe hb.pe, we_bin (ok2_I fun _ _ _ => .int _) ha.we hb.we⟩
theorem de_shl (ha : DE X a ta wa) (hb : DE X b tb wb) : DE X (.BinOp a .LShift b pos) (tOp (rI CShl fun i j => .int (i * 2 ^ j.toNat)) ta tb) (wBin (dI CShl fun i j => .int (i * 2 ^ j.toNat)) wa wb) := ⟨pe_op op_shlW ha.pe hb.pe, we_bin (ok2_I fun _ _ _ => .int _) ha.we hb.we⟩
theorem de_band (ha : DE X a ta wa) (hb : DE X b tb wb) : DE X (.BinOp a .BitAnd b pos) (tOp (rI0 fun i j => .int (Builtin.bitAnd i j)) ta tb) (wBin (dI0 fun i j => .int (Builtin.bitAnd i j)) wa wb) := ⟨pe_op op_and ha.pe hb.pe, we_bin (ok2_I0 fun _ _ _ => .int _) ha.we hb.we⟩
theorem de_bor (ha : DE X a ta wa) (hb : DE X b tb wb) : DE X (.BinOp a .BitOr b pos) (tOp (rI0 fun i j => .int (Builtin.bitOr i j)) ta tb) (wBin (dI0 fun i j => .int (Builtin.bitOr i j)) wa wb) := ⟨pe_op op_or ha.pe hb.pe, we_bin (ok2_I0 fun _ _ _ => .int _) ha.we hb.we⟩
def dNeg : D1 := fun x k => match x with
  | .int i => k (.dat (.int (-i)))
  | _ => False
theorem ok1_neg : Ok1 K (rU fun i => .int (-i)) dNeg := by
  intro B G H σ ρ x dx Q QV R vx q k
  cases dx with
  | int i => exact ⟨i, vx.int, k.dat R (.int _) q⟩
  | _ => exact q.elim
theorem de_neg (ha : DE X a ta wa) : DE X (.UnaryOp .USub a pos) (tUn (rU fun i => .int (-i)) ta) (wUn dNeg wa) := ⟨pe_un un_neg ha.pe, we_un ok1_neg ha.we⟩
end
end DL

set_option Elab.async false
set_option linter.all false
set_option maxRecDepth 100000
set_option maxHeartbeats 2000000
namespace DL
open PySem L2
/-! ### plain data -/
mutual
def PD.py : PD → PyData
  | .non => .none
  | .bl b => .bool b
  | .int i => .int i
  | .str x => .str x
  | .lst xs => .list (pyAll xs)
  | .tup xs => .tuple (pyAll xs)
  | .scr ns => .list (ns.map .int)
  | .dct _ => .none
  | .ins _ _ => .none
  | .err _ _ => .none
  | .fn _ _ => .none
def pyAll : List PD → List PyData
  | [] => []
  | x :: xs => x.py :: pyAll xs
end
mutual
def PD.plain : PD → Bool
  | .non => true
  | .bl _ => true
  | .int _ => true
  | .str _ => true
  | .lst xs => plainAll xs
  | .tup xs => plainAll xs
  | .scr _ => true
  | .dct _ => false
  | .ins _ _ => false
  | .err _ _ => false
  | .fn _ _ => false
def plainAll : List PD → Bool
  | [] => true
  | x :: xs => x.plain && plainAll xs
end
section
variable {K : KT} {G H : Hp}
theorem dp_ints : ∀ (ns : List Int), DpAll K H (ns.map V.int) (ns.map PyData.int)
  | [] => .nil
  | n :: ns => .cons (.int n) (dp_ints ns)
mutual
theorem Rp.dp (e : Ex G H) : ∀ {v : V} {d : PD}, Rp K G v d → d.plain = true → Dp K H v d.py
  | _, .non, .non, _ => .non
  | _, .bl _, .bl b, _ => .bl b
  | _, .int _, .int i, _ => .int i
  | _, .str _, .str x, _ => .str x
  | _, .lst ds, .lst h r, p => .lst (SqL.of (e _ _ h nt_lst)) (RpAll.dp e r p)
  | _, .tup ds, .tup h r, p => .tup (ex_t e h) (RpAll.dp e r p)
  | _, .scr ns, .scr h, _ => .lst (ex_l e h) (dp_ints ns)
theorem RpAll.dp (e : Ex G H) : ∀ {vs : List V} {ds : List PD}, RpAll K G vs ds → plainAll ds = true → DpAll K H vs (pyAll ds)
  | _, [], .nil, _ => .nil
  | _, d :: ds, .cons h r, p => .cons (Rp.dp e h (Bool.and_eq_true_iff.mp p).1) (RpAll.dp e r (Bool.and_eq_true_iff.mp p).2)
end
theorem Vw.dp (e : Ex G H) {v : V} {d : PD} (h : Vw K G H v d) (p : d.plain = true) : Dp K H v d.py := by
  rcases h with h | ⟨q, ho, o, rfl, h1, h2, h3⟩
  · exact h.dp e p
  · cases h2 with
    | lst r => cases h3; exact .lst (SqL.of h1) (r.dp e p)
    | dK r => cases h3; cases p
end
section
variable {X : CxT} {K : KT}
/-- data that may be compared -/
def cmpOk (x : PD) : Prop := x.plain = true ∧ SeqAt.shaped x.py = true
def dEq : D2 := fun x y k => cmpOk x ∧ cmpOk y ∧ k (.dat (.bl (PyData.eqv x.py y.py)))
def dNe : D2 := fun x y k => cmpOk x ∧ cmpOk y ∧ k (.dat (.bl (!PyData.eqv x.py y.py)))
theorem ok2_eq : Ok2 K (rEqD K) dEq := by
  intro B G H σ ρ x y dx dy Q QV R vx vy q k
  obtain ⟨⟨p1, s1⟩, ⟨p2, s2⟩, q⟩ := q
  exact ⟨_, _, vx.dp R.gh p1, vy.dp R.gh p2, s1, s2, k.dat R (.bl _) q⟩
theorem ok2_ne : Ok2 K (rNeD K) dNe := by
  intro B G H σ ρ x y dx dy Q QV R vx vy q k
  obtain ⟨⟨p1, s1⟩, ⟨p2, s2⟩, q⟩ := q
  exact ⟨_, _, vx.dp R.gh p1, vy.dp R.gh p2, s1, s2, k.dat R (.bl _) q⟩
/-- is None -/
def PD.isN : PD → Bool
  | .non => true
  | _ => false
def dIsN : D2 := fun x y k => match y with
  | .non => k (.dat (.bl x.isN))
  | _ => False
def dNotN : D2 := fun x y k => match y with
  | .non => k (.dat (.bl (!x.isN)))
  | _ => False
def rIsN : R2 := fun x y H Q => y = .non ∧ Q (.bl (decide (x = .non))) H
def rNotN : R2 := fun x y H Q => y = .non ∧ Q (.bl (!decide (x = .non))) H
theorem vw_isN {G H : Hp} {v : V} {d : PD} (h : Vw K G H v d) : decide (v = .non) = d.isN := by
  rcases h with h | ⟨q, ho, o, rfl, h1, h2, h3⟩
  · cases h <;> rfl
  · cases h2 <;> cases h3 <;> rfl
theorem ok2_isN : Ok2 K rIsN dIsN := by
  intro B G H σ ρ x y dx dy Q QV R vx vy q k
  cases dy with
  | non =>
    refine ⟨vy.non, ?_⟩
    rw [vw_isN vx]
    exact k.dat R (.bl _) q
  | _ => exact q.elim
theorem ok2_notN : Ok2 K rNotN dNotN := by
  intro B G H σ ρ x y dx dy Q QV R vx vy q k
  cases dy with
  | non =>
    refine ⟨vy.non, ?_⟩
    rw [vw_isN vx]
    exact k.dat R (.bl _) q
  | _ => exact q.elim
/-- x in (a, b, ..), x in [a, b, ..], of ints, bools, texts, None -/
def PD.flat : PD → Bool
  | .non => true
  | .bl _ => true
  | .int _ => true
  | .str _ => true
  | _ => false
def dInAt (neg : Bool) (x : PD) (ys : List PD) (k : Rz → Prop) : Prop := x.flat = true ∧ ys.all PD.flat = true ∧ k (.dat (.bl (if neg then !(ys.any fun y => PyData.eqv y.py x.py) else ys.any fun y => PyData.eqv y.py x.py)))
def dIn (neg : Bool) : D2 := fun x y k => match y with
  | .lst ys => dInAt neg x ys k
  | .tup ys => dInAt neg x ys k
  | _ => False
theorem flat_of {G : Hp} {v : V} {d : PD} (h : Rp K G v d) (f : d.flat = true) : flatV v = true := by
  cases h <;> first | rfl | (cases f; done)
theorem flat_vw {G H : Hp} {v : V} {d : PD} (h : Vw K G H v d) (f : d.flat = true) : Rp K G v d := by
  rcases h with h | ⟨q, ho, o, rfl, h1, h2, h3⟩
  · exact h
  · cases h2 <;> cases h3 <;> cases f
theorem eqV_py {G : Hp} {v w : V} {d e : PD} (h : Rp K G v d) (h' : Rp K G w e) (f : d.flat = true) (f' : e.flat = true) : eqV v w = PyData.eqv d.py e.py := by
  cases h <;> first | (cases f; done) | skip
  all_goals cases h' <;> first | (cases f'; done) | skip
  all_goals first | rfl | (simp only [eqV, PyData.eqv, PD.py]; done) | (simp only [eqV, PyData.eqv, PD.py]; rfl)
theorem flats_of {G : Hp} : ∀ {vs : List V} {ds : List PD}, RpAll K G vs ds → ds.all PD.flat = true → vs.all flatV = true
  | _, _, .nil, _ => rfl
  | _, _, .cons h r, f => by
    rw [List.all_cons, Bool.and_eq_true] at f ⊢
    exact ⟨flat_of h f.1, flats_of r f.2⟩
theorem inV_py {G : Hp} {x : V} {dx : PD} (hx : Rp K G x dx) (fx : dx.flat = true) : ∀ {vs : List V} {ds : List PD}, RpAll K G vs ds → ds.all PD.flat = true → inV x vs = ds.any fun y => PyData.eqv y.py dx.py
  | _, _, .nil, _ => rfl
  | _, _, .cons h r, f => by
    rw [List.all_cons, Bool.and_eq_true] at f
    have ih := inV_py hx fx r f.2
    unfold inV at ih ⊢
    rw [List.any_cons, List.any_cons, ih, eqV_py h hx f.1 fx]
theorem ok2_in {neg : Bool} : Ok2 K (rIn K neg) (dIn neg) := by
  intro B G H σ ρ x y dx dy Q QV R vx vy q k
  cases dy with
  | lst ys =>
    obtain ⟨f, fs, q⟩ := q
    obtain ⟨a, xs, rfl, ha, rs⟩ := vy.lst R.gh
    have hx := flat_vw vx f
    refine ⟨a, xs, rfl, .inl (SqL.of ha), flat_of hx f, flats_of rs fs, ?_⟩
    rw [inV_py hx f rs fs]
    exact k.dat R (.bl _) q
  | tup ys =>
    obtain ⟨f, fs, q⟩ := q
    obtain ⟨a, xs, rfl, ha, rs⟩ := vy.tup R.gh
    have hx := flat_vw vx f
    refine ⟨a, xs, rfl, .inr ha, flat_of hx f, flats_of rs fs, ?_⟩
    rw [inV_py hx f rs fs]
    exact k.dat R (.bl _) q
  | _ => exact q.elim

/-! ### tests -/
variable {a b c : Expr} {ta tb tc : TE} {wa wb wc : We} {pos : Pos}
/-- a value that is a bool, as a test -/
def wB (w : We) : Wt := fun ρ Q => w ρ fun r ρ1 => match r with
  | .dat (.bl b) => Q b ρ1
  | _ => False
theorem wt_of {te : TE} {w : We} (h : WE K te w) : WTt K (tB te) (wB w) := fun B G H σ ρ Q QV R q k =>
  h B G H σ ρ _ _ R q fun v G1 H1 ρ1 r S1 R1 rr q1 => by
    cases rr with
    | dat z =>
      cases z with
      | bl b => exact ⟨b, rfl, k b G1 H1 ρ1 S1 R1 q1⟩
      | _ => exact q1.elim
    | own => exact q1.elim
    | bor => exact q1.elim
theorem wt_test {te : TE} {w : We} (h : WE K te w) : WTt K (tTest te) (wB w) := wt_of h
theorem dt_val {e : Expr} {t : TE} {w : We} (h : DE X e t w) (he : ∀ whole, isTrue e X.env whole = (do let v ← whole; standAt e.pos; holding [v] (truthy v)) := by intro _; rfl) : DT X e (tB t) (wB w) := ⟨pt_val h.pe he, wt_of h.we⟩
/-- a comparison, as a value and as a test -/
structure DC (X : CxT) (op : CmpOp) (r : R2) (D : D2) : Prop where
  op : OpR X (compareOp op) r
  ok : Ok2 X.K r D
theorem de_cmp {op : CmpOp} {r : R2} {D : D2} (h : DC X op r D) (ha : DE X a ta wa) (hb : DE X b tb wb) (hm : behindInMarks op b = false := by first | exact nomark _ | rfl) : DE X (.Compare a [op] [b] pos) (tOp r ta tb) (wBin D wa wb) := ⟨pe_cmpR h.op ha.pe hb.pe hm, we_bin h.ok ha.we hb.we⟩
theorem dt_cmp {op : CmpOp} {r : R2} {D : D2} (h : DC X op r D) (ha : DE X a ta wa) (hb : DE X b tb wb) (hm : behindInMarks op b = false := by first | exact nomark _ | rfl) : DT X (.Compare a [op] [b] pos) (tTest (tOp r ta tb)) (wB (wBin D wa wb)) := ⟨pt_cmpR h.op ha.pe hb.pe hm, wt_test (we_bin h.ok ha.we hb.we)⟩
theorem dc_lt : DC X .Lt (rI0 fun i j => .bl (decide (i < j))) (dI0 fun i j => .bl (decide (i < j))) := ⟨op_lt, ok2_I0 fun _ _ _ => .bl _⟩
theorem dc_le : DC X .LtE (rI0 fun i j => .bl (decide (i ≤ j))) (dI0 fun i j => .bl (decide (i ≤ j))) := ⟨op_le, ok2_I0 fun _ _ _ => .bl _⟩
theorem dc_gt : DC X .Gt (rI0 fun i j => .bl (decide (j < i))) (dI0 fun i j => .bl (decide (j < i))) := ⟨op_gt, ok2_I0 fun _ _ _ => .bl _⟩
theorem dc_ge : DC X .GtE (rI0 fun i j => .bl (decide (j ≤ i))) (dI0 fun i j => .bl (decide (j ≤ i))) := ⟨op_ge, ok2_I0 fun _ _ _ => .bl _⟩
theorem dc_eq (hu : X.cx.A.units + 64 < cLine) : DC X .Eq (rEqD X.K) dEq := ⟨op_eqD hu, ok2_eq⟩
theorem dc_ne (hu : X.cx.A.units + 64 < cLine) : DC X .NotEq (rNeD X.K) dNe := ⟨op_neD hu, ok2_ne⟩
theorem dc_isN : DC X .Is rIsN dIsN := ⟨op_isN, ok2_isN⟩
theorem dc_notN : DC X .IsNot rNotN dNotN := ⟨op_notN, ok2_notN⟩
theorem dc_in : DC X .In (rIn X.K false) (dIn false) := ⟨op_in_seq, ok2_in⟩
theorem dc_notIn : DC X .NotIn (rIn X.K true) (dIn true) := ⟨op_notIn_seq, ok2_in⟩

/-! ### and, or, not -/
structure DW (X : CxT) (e : Expr) (tt : TT) (w : Wt) : Prop where
  pw : PW X e tt
  wt : WTt X.K tt w
def wAnd (w u : Wt) : Wt := fun ρ Q => w ρ fun b ρ1 => match b with
  | true => u ρ1 Q
  | false => Q false ρ1
def wOr (w u : Wt) : Wt := fun ρ Q => w ρ fun b ρ1 => match b with
  | true => Q true ρ1
  | false => u ρ1 Q
def wNot (w : Wt) : Wt := fun ρ Q => w ρ fun b ρ1 => Q (!b) ρ1
variable {tt tu : TT} {w u : Wt}
theorem wt_and (h : WTt K tt w) (h' : WTt K tu u) : WTt K (tAnd tt tu) (wAnd w u) := fun B G H σ ρ Q QV R q k =>
  h B G H σ ρ _ _ R q fun b G1 H1 ρ1 S1 R1 q1 => by
    cases b with
    | true => rw [if_pos rfl]; exact h' B G1 H1 σ ρ1 Q QV R1 q1 fun b' G2 H2 ρ2 S2 R2 q2 => k b' G2 H2 ρ2 (S1.trans S2) R2 q2
    | false => rw [if_neg Bool.false_ne_true]; exact k false G1 H1 ρ1 S1 R1 q1
theorem wt_or (h : WTt K tt w) (h' : WTt K tu u) : WTt K (tOr tt tu) (wOr w u) := fun B G H σ ρ Q QV R q k =>
  h B G H σ ρ _ _ R q fun b G1 H1 ρ1 S1 R1 q1 => by
    cases b with
    | false => rw [if_neg Bool.false_ne_true]; exact h' B G1 H1 σ ρ1 Q QV R1 q1 fun b' G2 H2 ρ2 S2 R2 q2 => k b' G2 H2 ρ2 (S1.trans S2) R2 q2
    | true => rw [if_pos rfl]; exact k true G1 H1 ρ1 S1 R1 q1
theorem wt_not (h : WTt K tt w) : WTt K (tNot tt) (wNot w) := fun B G H σ ρ Q QV R q k =>
  h B G H σ ρ _ _ R q fun b G1 H1 ρ1 S1 R1 q1 => k (!b) G1 H1 ρ1 S1 R1 q1
variable {rest : List Expr}
theorem dw_and1 (h : DT X a tt w) : DW X (.BoolOp .And [a] pos) tt w := ⟨pw_and1 h.pt, h.wt⟩
theorem dw_or1 (h : DT X a tt w) : DW X (.BoolOp .Or [a] pos) tt w := ⟨pw_or1 h.pt, h.wt⟩
theorem dw_and (h : DT X a tt w) (h' : DW X (.BoolOp .And (b :: rest) pos) tu u) : DW X (.BoolOp .And (a :: b :: rest) pos) (tAnd tt tu) (wAnd w u) := ⟨pw_and h.pt h'.pw, wt_and h.wt h'.wt⟩
theorem dw_or (h : DT X a tt w) (h' : DW X (.BoolOp .Or (b :: rest) pos) tu u) : DW X (.BoolOp .Or (a :: b :: rest) pos) (tOr tt tu) (wOr w u) := ⟨pw_or h.pt h'.pw, wt_or h.wt h'.wt⟩
theorem DW.dt (h : DW X a tt w) : DT X a tt w := ⟨h.pw.pt, h.wt⟩
theorem dt_not (h : DT X a tt w) : DT X (.UnaryOp .Not a pos) (tNot tt) (wNot w) := ⟨pt_not h.pt, wt_not h.wt⟩
/-- .. as values, bools -/
def wAndV (w u : We) : We := fun ρ Q => wB w ρ fun b ρ1 => match b with
  | true => u ρ1 Q
  | false => Q (.dat (.bl false)) ρ1
def wOrV (w u : We) : We := fun ρ Q => wB w ρ fun b ρ1 => match b with
  | true => Q (.dat (.bl true)) ρ1
  | false => u ρ1 Q
def wNotV (w : We) : We := fun ρ Q => wB w ρ fun b ρ1 => Q (.dat (.bl (!b))) ρ1
theorem we_andV (h : WE K ta wa) (h' : WE K tb wb) : WE K (tAndV ta tb) (wAndV wa wb) := fun B G H σ ρ Q QV R q k =>
  wt_of h B G H σ ρ _ (fun c H1 => if c = true then tb σ H1 QV else QV (.bl false) H1) R q fun b G1 H1 ρ1 S1 R1 q1 => by
    cases b with
    | true => rw [if_pos rfl]; exact h' B G1 H1 σ ρ1 Q QV R1 q1 fun v' G2 H2 ρ2 r2 S2 R2 rr q2 => k v' G2 H2 ρ2 r2 (S1.trans S2) R2 rr q2
    | false => rw [if_neg Bool.false_ne_true]; exact k _ G1 H1 ρ1 _ S1 R1 (.dat (.bl false)) q1
theorem we_orV (h : WE K ta wa) (h' : WE K tb wb) : WE K (tOrV ta tb) (wOrV wa wb) := fun B G H σ ρ Q QV R q k =>
  wt_of h B G H σ ρ _ (fun c H1 => if c = true then QV (.bl true) H1 else tb σ H1 QV) R q fun b G1 H1 ρ1 S1 R1 q1 => by
    cases b with
    | false => rw [if_neg Bool.false_ne_true]; exact h' B G1 H1 σ ρ1 Q QV R1 q1 fun v' G2 H2 ρ2 r2 S2 R2 rr q2 => k v' G2 H2 ρ2 r2 (S1.trans S2) R2 rr q2
    | true => rw [if_pos rfl]; exact k _ G1 H1 ρ1 _ S1 R1 (.dat (.bl true)) q1
theorem we_notV (h : WE K ta wa) : WE K (tNotV ta) (wNotV wa) := fun B G H σ ρ Q QV R q k =>
  wt_of h B G H σ ρ _ (fun c H1 => QV (.bl (!c)) H1) R q fun b G1 H1 ρ1 S1 R1 q1 => k _ G1 H1 ρ1 _ S1 R1 (.dat (.bl (!b))) q1
theorem de_one {op} (h : DE X a ta wa) : DE X (.BoolOp op [a] pos) ta wa := ⟨pe_one h.pe, h.we⟩
theorem de_and (ha : DE X a ta wa) (hb : DE X (.BoolOp .And (b :: rest) pos) tb wb) : DE X (.BoolOp .And (a :: b :: rest) pos) (tAndV ta tb) (wAndV wa wb) := ⟨pe_and ha.pe hb.pe, we_andV ha.we hb.we⟩
theorem de_or (ha : DE X a ta wa) (hb : DE X (.BoolOp .Or (b :: rest) pos) tb wb) : DE X (.BoolOp .Or (a :: b :: rest) pos) (tOrV ta tb) (wOrV wa wb) := ⟨pe_or ha.pe hb.pe, we_orV ha.we hb.we⟩
theorem de_not (ha : DE X a ta wa) : DE X (.UnaryOp .Not a pos) (tNotV ta) (wNotV wa) := ⟨pe_not ha.pe, we_notV ha.we⟩
/-- a if t else b -/
def wIf (w : Wt) (wa wb : We) : We := fun ρ Q => w ρ fun b ρ1 => match b with
  | true => wa ρ1 Q
  | false => wb ρ1 Q
theorem we_if (h : WTt K tt w) (h1 : WE K ta wa) (h2 : WE K tb wb) : WE K (tIf tt ta tb) (wIf w wa wb) := fun B G H σ ρ Q QV R q k =>
  h B G H σ ρ _ _ R q fun b G1 H1 ρ1 S1 R1 q1 => by
    cases b with
    | true => rw [if_pos rfl]; exact h1 B G1 H1 σ ρ1 Q QV R1 q1 fun v' G2 H2 ρ2 r2 S2 R2 rr q2 => k v' G2 H2 ρ2 r2 (S1.trans S2) R2 rr q2
    | false => rw [if_neg Bool.false_ne_true]; exact h2 B G1 H1 σ ρ1 Q QV R1 q1 fun v' G2 H2 ρ2 r2 S2 R2 rr q2 => k v' G2 H2 ρ2 r2 (S1.trans S2) R2 rr q2
theorem de_if (hc : DT X c tt w) (ha : DE X a ta wa) (hb : DE X b tb wb) : DE X (.IfExp c a b pos) (tIf tt ta tb) (wIf w wa wb) := ⟨pe_ifExp hc.pt ha.pe hb.pe, we_if hc.wt ha.we hb.we⟩
end
end DL

set_option Elab.async false
set_option linter.all false
set_option maxRecDepth 100000
set_option maxHeartbeats 2000000
namespace DL
open PySem L2
section
variable {X : CxT} {K : KT} {e : Expr} {es : List Expr} {te : TE} {t ta : TA} {we : We} {wr wa : Wa} {pos p : Pos}
/-! ### arguments -/
def wNil : Wa := fun ρ Q => Q [] ρ
def warm (r : Rz) (ρ : Sl) : Prop := r.cold = true ∨ ∃ d, r.pd ρ = some d
def wCons (we : We) (wr : Wa) : Wa := fun ρ Q => we ρ fun r ρ1 => warm r ρ1 ∧ wr ρ1 fun rs ρ2 => Q (r.cool :: rs) ρ2
theorem wa_nil : WAa K tNil wNil := fun B G H σ ρ Q QV R q k => k [] G H ρ [] .refl R .nil q
theorem wa_cons (he : WE K te we) (hr : WAa K t wr) : WAa K (tCons te t) (wCons we wr) := fun B G H σ ρ Q QV R q k =>
  he B G H σ ρ _ _ R q fun v G1 H1 ρ1 r S1 R1 rr ⟨c1, q1⟩ => by
    obtain ⟨G1', S1', R1', rr1', cc, ec⟩ := rr.cool R1 c1
    refine hr B G1' H1 σ ρ1 _ _ R1' q1 fun vs G2 H2 ρ2 rs S2 R2 rrs q2 => ?_
    exact k (v :: vs) G2 H2 ρ2 (r.cool :: rs) ((S1.trans S1').trans S2) R2 (.cons (rr1'.stay cc S2.g) cc rrs) q2
theorem da_nil : DA X [] tNil wNil := ⟨pa_nil, wa_nil⟩
theorem da_cons (he : DE X e te we) (hr : DA X es t wr) (hs : starEach (e :: es) X.env = (false, eval e X.env) :: starEach es X.env := by rfl) : DA X (e :: es) (tCons te t) (wCons we wr) := ⟨pa_cons he.pe hr.pa hs, wa_cons he.we hr.wa⟩
def pdsOf : List Rz → Sl → Option (List PD)
  | [], _ => some []
  | r :: rs, ρ => match r.pd ρ, pdsOf rs ρ with
    | some d, some ds => some (d :: ds)
    | _, _ => none
def looks (rs : List Rz) (ρ : Sl) (k : List PD → Prop) : Prop := ok (pdsOf rs ρ) k
inductive VwAll (K : KT) (G H : Hp) : List V → List PD → Prop
  | nil : VwAll K G H [] []
  | cons {v : V} {vs : List V} {d : PD} {ds : List PD} : Vw K G H v d → VwAll K G H vs ds → VwAll K G H (v :: vs) (d :: ds)
theorem RRs.vw {B : Addr → Prop} {G H : Hp} {σ : L2.St} {ρ : Sl} (R : Rep K B G H σ ρ) : ∀ {vs : List V} {rs : List Rz} {ds : List PD}, RRs K B G H σ ρ vs rs → pdsOf rs ρ = some ds → VwAll K G H vs ds
  | _, _, ds, .nil, h => by cases h; exact .nil
  | _, _, ds, @RRs.cons _ _ _ _ _ _ v vs r rs h1 hc hr, h => by
    unfold pdsOf at h
    cases e1 : r.pd ρ with
    | none => rw [e1] at h; cases h
    | some d =>
      cases e2 : pdsOf rs ρ with
      | none => rw [e1, e2] at h; cases h
      | some ds' =>
        rw [e1, e2] at h
        cases h
        exact .cons (h1.vw R e1) (RRs.vw R hr e2)
/-! ### things captured: items of a display, what is appended -/
/-- the items are made stable -/
def frzAll : List Rz → Sl → Option (List PD × Sl)
  | [], ρ => some ([], ρ)
  | r :: rs, ρ => match r with
    | .dat d => match frzAll rs ρ with
      | some (ds, ρ') => some (d :: ds, ρ')
      | none => none
    | .own _ => none
    | .bor i => match ρ[i]? with
      | some (.dat d) => match frzAll rs ρ with
        | some (ds, ρ') => some (d :: ds, ρ')
        | none => none
      | some (.own o) => match o.pd with
        | some d => match frzAll rs (ρ.set i (.dat d)) with
          | some (ds, ρ') => some (d :: ds, ρ')
          | none => none
        | none => none
      | _ => none
theorem frz_all {B : Addr → Prop} {H : Hp} {σ : L2.St} : ∀ {vs : List V} {rs : List Rz} {G : Hp} {ρ ρ' : Sl} {ds : List PD}, Rep K B G H σ ρ → RRs K B G H σ ρ vs rs → frzAll rs ρ = some (ds, ρ') →
    ∃ G', Stp B G H G' H ∧ Rep K B G' H σ ρ' ∧ RpAll K G' vs ds := by
  intro vs rs
  induction rs generalizing vs with
  | nil =>
    intro G ρ ρ' ds R h e
    cases h
    cases e
    exact ⟨G, .refl, R, .nil⟩
  | cons r rs ih =>
    intro G ρ ρ' ds R h e
    cases h with
    | cons h1 hc hr =>
      unfold frzAll at e
      cases r with
      | own o => cases hc
      | dat d =>
        cases e2 : frzAll rs ρ with
        | none => simp only [e2] at e; cases e
        | some p =>
          obtain ⟨ds', ρ''⟩ := p
          simp only [e2] at e
          cases e
          obtain ⟨G', S, R', q⟩ := ih R hr e2
          cases h1 with
          | dat z => exact ⟨G', S, R', .cons (z.mono S.g) q⟩
      | bor i =>
        cases h1 with
        | bor hz =>
          cases ei : ρ[i]? with
          | none => simp only [ei] at e; cases e
          | some s =>
            cases s with
            | emp => simp only [ei] at e; cases e
            | dat d =>
              cases e2 : frzAll rs ρ with
              | none => simp only [ei, e2] at e; cases e
              | some p =>
                obtain ⟨ds', ρ''⟩ := p
                simp only [ei, e2] at e
                cases e
                obtain ⟨G', S, R', q⟩ := ih R hr e2
                obtain ⟨w, w1, w2⟩ := R.dat _ _ ei
                rw [hz] at w1; cases w1
                exact ⟨G', S, R', .cons (w2.mono S.g) q⟩
            | own o =>
              cases eo : o.pd with
              | none => simp only [ei, eo] at e; cases e
              | some d =>
                cases e2 : frzAll rs (ρ.set i (.dat d)) with
                | none => simp only [ei, eo, e2] at e; cases e
                | some p =>
                  obtain ⟨ds', ρ''⟩ := p
                  simp only [ei, eo, e2] at e
                  cases e
                  obtain ⟨w, G1, w1, R1, w2, S1⟩ := R.freeze ei eo
                  obtain ⟨G', S, R', q⟩ := ih R1 (hr.stay S1.g) e2
                  rw [hz] at w1; cases w1
                  exact ⟨G', S1.trans S, R', .cons (w2.mono S.g) q⟩
def frz (rs : List Rz) (ρ : Sl) (k : List PD → Sl → Prop) : Prop := ok (frzAll rs ρ) fun p => k p.1 p.2
/-- (a, b, ..), [a, b, ..] -/
def wTup (wa : Wa) : We := fun ρ Q => wa ρ fun rs ρ1 => frz rs ρ1 fun ds ρ2 => ds.length ≤ sizeLine ∧ Q (.dat (.tup ds)) ρ2
def wLst (wa : Wa) : We := fun ρ Q => wa ρ fun rs ρ1 => frz rs ρ1 fun ds ρ2 => ds.length ≤ sizeLine ∧ Q (.own (.lst ds)) ρ2
theorem we_tup (h : WAa K t wa) : WE K (tTup t) (wTup wa) := fun B G H σ ρ Q QV R q k =>
  h B G H σ ρ _ _ R q fun vs G1 H1 ρ1 rs S1 R1 rr q1 => by
    obtain ⟨⟨ds, ρ2⟩, e, hz, q1⟩ := ok_some q1
    obtain ⟨G2, S2, R2, ra⟩ := frz_all R1 rr e
    refine ⟨by rw [ra.length]; exact hz, fun n hn => ?_⟩
    exact Gv.tup (K := K) (Q := fun r => Q r ρ2) (fun v G' H' r S3 R3 rr3 q3 => k v G' H' ρ2 r ((S1.trans S2).trans S3) R3 rr3 q3) R2 hn ra q1
theorem we_lst (h : WAa K t wa) : WE K (tLst t) (wLst wa) := fun B G H σ ρ Q QV R q k =>
  h B G H σ ρ _ _ R q fun vs G1 H1 ρ1 rs S1 R1 rr q1 => by
    obtain ⟨⟨ds, ρ2⟩, e, hz, q1⟩ := ok_some q1
    obtain ⟨G2, S2, R2, ra⟩ := frz_all R1 rr e
    refine ⟨by rw [ra.length]; exact hz, fun n hn => ?_⟩
    exact Gv.new (K := K) (Q := fun r => Q r ρ2) (fun v G' H' r S3 R3 rr3 q3 => k v G' H' ρ2 r ((S1.trans S2).trans S3) R3 rr3 q3) R2 hn (.lst ra) q1
theorem de_tup {x1} (h : DA X es t wa) : DE X (.Tuple es x1 pos) (tTup t) (wTup wa) := ⟨pe_tup h.pa, we_tup h.wa⟩
theorem de_lst (h : DA X es t wa) : DE X (.List es pos) (tLst t) (wLst wa) := ⟨pe_lst h.pa, we_lst h.wa⟩

/-! ### built-in calls -/
def OkN (K : KT) (r : List V → Hp → VK → Prop) (D : Dn) : Prop := ∀ (B : Addr → Prop) (G H : Hp) (σ : L2.St) (ρ : Sl) (xs : List V) (ds : List PD) (Q : Rz → Prop) (QV : VK),
  Rep K B G H σ ρ → VwAll K G H xs ds → D ds Q → Gv K B G H σ ρ Q QV → r xs H QV
def wCB (D : Dn) (wa : Wa) : We := fun ρ Q => wa ρ fun rs ρ1 => looks rs ρ1 fun ds => D ds fun r => Q r ρ1
theorem we_cb {r : List V → Hp → VK → Prop} {D : Dn} (h : OkN K r D) (ha : WAa K t wa) : WE K (tCB r t) (wCB D wa) := fun B G H σ ρ Q QV R q k =>
  ha B G H σ ρ _ _ R q fun vs G1 H1 ρ1 rs S1 R1 rr q1 => by
    obtain ⟨ds, e, q1⟩ := ok_some q1
    exact h B G1 H1 σ ρ1 vs ds (fun r => Q r ρ1) QV R1 (rr.vw R1 e) q1 fun v G' H' r S3 R3 rr3 q3 => k v G' H' ρ1 r (S1.trans S3) R3 rr3 q3
structure DB (X : CxT) (f : Value) (r : List V → Hp → VK → Prop) (D : Dn) : Prop where
  c : CallR X f r
  ok : OkN X.K r D
theorem CallR.orr {f : Value} {r r' : List V → Hp → VK → Prop} (h : CallR X f r) (h' : CallR X f r') : CallR X f (fun xs H Q => r xs H Q ∨ r' xs H Q) := h.or h'
def dInt : Dn := fun ds k => match ds with
  | [.int i] => k (.dat (.int i))
  | [.bl b] => k (.dat (.int (if b then 1 else 0)))
  | _ => False
theorem db_int : DB X (.type "int") (fun xs H Q => (∃ i, xs = [.int i] ∧ Q (.int i) H) ∨ ∃ k, xs = [.bl k] ∧ Q (.int (if k then 1 else 0)) H) dInt := by
  refine ⟨call_int1, fun B G H σ ρ xs ds Q QV R hv q k => ?_⟩
  match ds, hv, q with
  | [.int i], .cons h .nil, q => exact .inl ⟨i, by rw [h.int], k.dat R (.int _) q⟩
  | [.bl b], .cons h .nil, q => exact .inr ⟨b, by rw [h.bl], k.dat R (.int _) q⟩
def dAbs : Dn := fun ds k => match ds with
  | [.int i] => k (.dat (.int (if i < 0 then -i else i)))
  | _ => False
theorem db_abs : DB X (.builtin "abs") (fun xs H Q => ∃ i, xs = [.int i] ∧ Q (.int (if i < 0 then -i else i)) H) dAbs := by
  refine ⟨call_abs, fun B G H σ ρ xs ds Q QV R hv q k => ?_⟩
  match ds, hv, q with
  | [.int i], .cons h .nil, q => exact ⟨i, by rw [h.int], k.dat R (.int _) q⟩
def rLen3 (K : PySem.W.Frag) : List V → Hp → VK → Prop := fun xs H Q => (∃ p ys, xs = [.ref p] ∧ (SqL K H p ys ∨ SqT K H p ys) ∧ Q (.int ys.length) H) ∨ ∃ z, xs = [.str z] ∧ z.length ≤ sizeLine ∧ Q (.int z.length) H
def dLen : Dn := fun ds k => match ds with
  | [.lst xs] => k (.dat (.int xs.length))
  | [.tup xs] => k (.dat (.int xs.length))
  | [.scr xs] => k (.dat (.int xs.length))
  | [.str z] => z.length ≤ sizeLine ∧ k (.dat (.int z.length))
  | _ => False
theorem db_len : DB X (.builtin "len") (rLen3 X.K) dLen := by
  refine ⟨CallR.orr call_len_seq call_len_str, fun B G H σ ρ xs ds Q QV R hv q k => ?_⟩
  match ds, hv, q with
  | [.lst ys], .cons h .nil, q =>
    obtain ⟨a, us, rfl, ha, ra⟩ := h.lst R.gh
    exact .inl ⟨a, us, rfl, .inl (SqL.of ha), by rw [ra.length]; exact k.dat R (.int _) q⟩
  | [.tup ys], .cons h .nil, q =>
    obtain ⟨a, us, rfl, ha, ra⟩ := h.tup R.gh
    exact .inl ⟨a, us, rfl, .inr ha, by rw [ra.length]; exact k.dat R (.int _) q⟩
  | [.scr ys], .cons h .nil, q =>
    obtain ⟨a, rfl, ha⟩ := h.scr R.gh
    exact .inl ⟨a, _, rfl, .inl ha, by rw [List.length_map]; exact k.dat R (.int _) q⟩
  | [.str z], .cons h .nil, q => exact .inr ⟨z, by rw [h.str], q.1, k.dat R (.int _) q.2⟩
def dMax2 : Dn := fun ds k => match ds with
  | [.int i, .int j] => k (.dat (.int (if j > i then j else i)))
  | _ => False
theorem db_max2 (hc : X.calm = true) : DB X (.builtin "max") (fun xs H Q => ∃ i j, xs = [.int i, .int j] ∧ Q (.int (if j > i then j else i)) H) dMax2 := by
  refine ⟨call_max2 hc, fun B G H σ ρ xs ds Q QV R hv q k => ?_⟩
  match ds, hv, q with
  | [.int i, .int j], .cons h (.cons h' .nil), q => exact ⟨i, j, by rw [h.int, h'.int], k.dat R (.int _) q⟩
def dMin2 : Dn := fun ds k => match ds with
  | [.int i, .int j] => k (.dat (.int (if j < i then j else i)))
  | _ => False
theorem db_min2 (hc : X.calm = true) : DB X (.builtin "min") (fun xs H Q => ∃ i j, xs = [.int i, .int j] ∧ Q (.int (if j < i then j else i)) H) dMin2 := by
  refine ⟨call_min2 hc, fun B G H σ ρ xs ds Q QV R hv q k => ?_⟩
  match ds, hv, q with
  | [.int i, .int j], .cons h (.cons h' .nil), q => exact ⟨i, j, by rw [h.int, h'.int], k.dat R (.int _) q⟩
/-- ints of a list of data -/
def intsOf : List PD → Option (List Int)
  | [] => some []
  | .int i :: ds => match intsOf ds with
    | some ns => some (i :: ns)
    | none => none
  | _ :: _ => none
theorem intsOf_eq : ∀ {ds : List PD} {ns : List Int}, intsOf ds = some ns → ds = ns.map PD.int := by
  intro ds
  induction ds with
  | nil => intro ns h; cases h; rfl
  | cons d ds ih =>
    intro ns h
    cases d with
    | int i =>
      unfold intsOf at h
      cases e : intsOf ds with
      | none => simp only [e] at h; cases h
      | some ms => simp only [e] at h; cases h; rw [ih e]; rfl
    | _ => cases h
theorem intsOf_map : ∀ (ns : List Int), intsOf (ns.map PD.int) = some ns
  | [] => rfl
  | n :: ns => by
    show (match intsOf (ns.map PD.int) with | some ms => some (n :: ms) | none => none) = _
    rw [intsOf_map ns]
def dSum : Dn := fun ds k => match ds with
  | [.lst xs] => ok (intsOf xs) fun ns => k (.dat (.int ns.sum))
  | [.scr ns] => k (.dat (.int ns.sum))
  | _ => False
theorem db_sum (hc : X.calm = true) : DB X (.builtin "sum") (rSum X.K) dSum := by
  refine ⟨cr_sum hc, fun B G H σ ρ xs ds Q QV R hv q k => ?_⟩
  match ds, hv, q with
  | [.lst ys], .cons h .nil, q =>
    obtain ⟨ns, e, q⟩ := ok_some q
    obtain ⟨a, us, rfl, ha, ra⟩ := h.lst R.gh
    rw [intsOf_eq e] at ra
    rw [ra.ints] at ha
    exact ⟨a, ns, rfl, SqL.of ha, k.dat R (.int _) q⟩
  | [.scr ns], .cons h .nil, q =>
    obtain ⟨a, rfl, ha⟩ := h.scr R.gh
    exact ⟨a, ns, rfl, ha, k.dat R (.int _) q⟩
def bools : List PD → Option (List Bool)
  | [] => some []
  | .bl b :: ds => match bools ds with
    | some ns => some (b :: ns)
    | none => none
  | _ :: _ => none
theorem bools_eq : ∀ {ds : List PD} {ns : List Bool}, bools ds = some ns → ds = ns.map PD.bl := by
  intro ds
  induction ds with
  | nil => intro ns h; cases h; rfl
  | cons d ds ih =>
    intro ns h
    cases d with
    | bl i =>
      unfold bools at h
      cases e : bools ds with
      | none => simp only [e] at h; cases h
      | some ms => simp only [e] at h; cases h; rw [ih e]; rfl
    | _ => cases h
theorem bools_map : ∀ (ns : List Bool), bools (ns.map PD.bl) = some ns
  | [] => rfl
  | n :: ns => by
    show (match bools (ns.map PD.bl) with | some ms => some (n :: ms) | none => none) = _
    rw [bools_map ns]
theorem RpAll.bls {G : Hp} : ∀ {vs : List V} {ns : List Bool}, RpAll K G vs (ns.map PD.bl) → vs = ns.map V.bl := by
  intro vs ns
  induction ns generalizing vs with
  | nil => intro h; cases h; rfl
  | cons n ns ih => intro h; cases h with | cons h r => cases h; rw [ih r]; rfl
def dAll : Dn := fun ds k => match ds with
  | [.lst xs] => ok (bools xs) fun bs => k (.dat (.bl (bs.all id)))
  | _ => False
def dAny : Dn := fun ds k => match ds with
  | [.lst xs] => ok (bools xs) fun bs => k (.dat (.bl (bs.any id)))
  | _ => False
theorem db_all (hc : X.calm = true) : DB X (.builtin "all") (rAll X.K) dAll := by
  refine ⟨cr_all hc, fun B G H σ ρ xs ds Q QV R hv q k => ?_⟩
  match ds, hv, q with
  | [.lst ys], .cons h .nil, q =>
    obtain ⟨ns, e, q⟩ := ok_some q
    obtain ⟨a, us, rfl, ha, ra⟩ := h.lst R.gh
    rw [bools_eq e] at ra
    rw [ra.bls] at ha
    exact ⟨a, ns, rfl, SqL.of ha, k.dat R (.bl _) q⟩
theorem db_any (hc : X.calm = true) : DB X (.builtin "any") (rAny X.K) dAny := by
  refine ⟨cr_any hc, fun B G H σ ρ xs ds Q QV R hv q k => ?_⟩
  match ds, hv, q with
  | [.lst ys], .cons h .nil, q =>
    obtain ⟨ns, e, q⟩ := ok_some q
    obtain ⟨a, us, rfl, ha, ra⟩ := h.lst R.gh
    rw [bools_eq e] at ra
    rw [ra.bls] at ha
    exact ⟨a, ns, rfl, SqL.of ha, k.dat R (.bl _) q⟩
/-- list(xs), tuple(xs) -/
def dList : Dn := fun ds k => match ds with
  | [.lst xs] => k (.own (.lst xs))
  | [.tup xs] => k (.own (.lst xs))
  | [.scr ns] => k (.own (.lst (ns.map .int)))
  | _ => False
theorem db_list : DB X (.type "list") (fun xs H Q => ∃ p ys, xs = [.ref p] ∧ (SqL X.K H p ys ∨ SqT X.K H p ys) ∧ ∀ l, H l = none → Q (.ref l) (upd H l (.lst ys))) dList := by
  refine ⟨call_list_of, fun B G H σ ρ xs ds Q QV R hv q k => ?_⟩
  match ds, hv, q with
  | [.lst ys], .cons h .nil, q =>
    obtain ⟨a, us, rfl, ha, ra⟩ := h.lst R.gh
    exact ⟨a, us, rfl, .inl (SqL.of ha), fun n hn => k.new R hn (.lst ra) q⟩
  | [.tup ys], .cons h .nil, q =>
    obtain ⟨a, us, rfl, ha, ra⟩ := h.tup R.gh
    exact ⟨a, us, rfl, .inr ha, fun n hn => k.new R hn (.lst ra) q⟩
  | [.scr ns], .cons h .nil, q =>
    obtain ⟨a, rfl, ha⟩ := h.scr R.gh
    exact ⟨a, _, rfl, .inl ha, fun n hn => k.new R hn (.lst (rp_ints ns)) q⟩
def dTuple : Dn := fun ds k => match ds with
  | [.lst xs] => k (.dat (.tup xs))
  | [.tup xs] => k (.dat (.tup xs))
  | _ => False
theorem db_tuple : DB X (.type "tuple") (fun xs H Q => ∃ p ys, xs = [.ref p] ∧ ((SqL X.K H p ys ∧ ∀ l, H l = none → Q (.ref l) (upd H l (.tup ys))) ∨ (SqT X.K H p ys ∧ Q (.ref p) H))) dTuple := by
  refine ⟨call_tuple_of, fun B G H σ ρ xs ds Q QV R hv q k => ?_⟩
  match ds, hv, q with
  | [.lst ys], .cons h .nil, q =>
    obtain ⟨a, us, rfl, ha, ra⟩ := h.lst R.gh
    exact ⟨a, us, rfl, .inl ⟨SqL.of ha, fun n hn => k.tup R hn ra q⟩⟩
  | [.tup ys], .cons h .nil, q =>
    have w := h.tupR
    obtain ⟨a, us, rfl, ha, ra⟩ := h.tup R.gh
    exact ⟨a, us, rfl, .inr ⟨ha, k.dat R w q⟩⟩
/-- repr of plain data -/
def rRepr (K : PySem.W.Frag) : List V → Hp → VK → Prop := fun xs H Q => ∃ x d, xs = [x] ∧ Dp K H x d ∧ d.showable = true ∧ d.hasDict = false ∧ d.depth ≤ 64 ∧ d.shown.length ≤ sizeLine ∧ Q (.str d.shown) H
theorem call_repr (hg : X.A.guards = some []) (hu : X.cx.A.units + 66 < cLine) : CallR X (.builtin "repr") (rRepr X.K) := by
  intro pins s σ H xs us Q I r h
  obtain ⟨x, d, rfl, hd, hs, hdc, hdp, hz, q⟩ := h
  obtain ⟨u, rfl, ru⟩ := vals1 r
  cases hd with
  | non => cases ru; exact PySem.P.repr_of_none ⟨.str _, H, I.tok _, ⟨_, rfl⟩, q⟩
  | bl b => cases ru; exact PySem.P.repr_of_bool ⟨.str _, H, I.tok _, ⟨_, rfl⟩, q⟩
  | int i => obtain ⟨t, rfl⟩ := ru; exact PySem.P.repr_of_int (of_decide_eq_true hs) ⟨.str _, H, I.tok _, ⟨_, rfl⟩, q⟩
  | str z => obtain ⟨t, rfl⟩ := ru; exact PySem.P.repr_of_str ⟨.str _, H, I.tok _, ⟨_, rfl⟩, q⟩ hz
  | lst a b =>
    obtain ⟨as, rd⟩ := Dp.reads I _ _ _ (.lst a b) ru
    cases ru
    exact repr_of_reads' rd hs (fun z => by rw [hdc] at z; cases z) hg (by omega) (fun _ _ z => z) (fun h' tu tk kk => ⟨.str _, H, I.kept kk, ⟨_, rfl⟩, q⟩) hz
  | tup a b =>
    obtain ⟨as, rd⟩ := Dp.reads I _ _ _ (.tup a b) ru
    cases ru
    exact repr_of_reads' rd hs (fun z => by rw [hdc] at z; cases z) hg (by omega) (fun _ _ z => z) (fun h' tu tk kk => ⟨.str _, H, I.kept kk, ⟨_, rfl⟩, q⟩) hz
/-- what repr asks: it is plain, its ints and its text are not too long -/
def showOk (d : PD) : Prop := d.plain = true ∧ d.py.showable = true ∧ d.py.hasDict = false ∧ d.py.depth ≤ 64 ∧ d.py.shown.length ≤ sizeLine
def dRepr : Dn := fun ds k => match ds with
  | [d] => showOk d ∧ k (.dat (.str d.py.shown))
  | _ => False
theorem db_repr (hg : X.A.guards = some []) (hu : X.cx.A.units + 66 < cLine) : DB X (.builtin "repr") (rRepr X.K) dRepr := by
  refine ⟨call_repr hg hu, fun B G H σ ρ xs ds Q QV R hv q k => ?_⟩
  match ds, hv, q with
  | [d], .cons h .nil, ⟨⟨p, s1, s2, s3, s4⟩, q⟩ => exact ⟨_, _, rfl, h.dp R.gh p, s1, s2, s3, s4, k.dat R (.str _) q⟩
/-- str(int) -/
def dStr : Dn := fun ds k => match ds with
  | [.int i] => i.natAbs.log2 < 1920 ∧ k (.dat (.str (toString i)))
  | _ => False
theorem db_str : DB X (.type "str") (fun xs H Q => ∃ i, xs = [.int i] ∧ i.natAbs.log2 < 1920 ∧ Q (.str (toString i)) H) dStr := by
  refine ⟨call_str_int, fun B G H σ ρ xs ds Q QV R hv q k => ?_⟩
  match ds, hv, q with
  | [.int i], .cons h .nil, q => exact ⟨i, by rw [h.int], q.1, k.dat R (.str _) q.2⟩
end
end DL

set_option Elab.async false
set_option linter.all false
set_option maxRecDepth 100000
set_option maxHeartbeats 2000000
namespace DL
open PySem L2
section
variable {X : CxT} {K : KT} {a b e : Expr} {es : List Expr} {te ta tb : TE} {t : TA} {we wa wb : We} {wr : Wa} {pos p : Pos}
/-! ### subscripts -/
def dIx : D2 := fun x y k => match x, y with
  | .lst xs, .int i => ok (atI xs i) fun d => k (.dat d)
  | .tup xs, .int i => ok (atI xs i) fun d => k (.dat d)
  | .scr ns, .int i => ok (atI ns i) fun n => k (.dat (.int n))
  | .str z, .int i => z.length ≤ sizeLine ∧ ok (atI z.cps.toList i) fun c => k (.dat (.str ⟨#[c]⟩))
  | _, _ => False
theorem rp_at {G : Hp} {vs : List V} {ds : List PD} {i : Int} {d : PD} (r : RpAll K G vs ds) (h : atI ds i = some d) : ∃ v, atI vs i = some v ∧ Rp K G v d := by
  unfold atI at h ⊢
  rw [r.length]
  cases e : ixN ds.length i with
  | none => rw [e] at h; cases h
  | some j =>
    rw [e] at h
    exact r.get h
theorem ints_at {ns : List Int} {i n : Int} (h : atI ns i = some n) : atI (ns.map V.int) i = some (.int n) := by
  unfold atI at h ⊢
  rw [List.length_map]
  cases e : ixN ns.length i with
  | none => rw [e] at h; cases h
  | some j =>
    rw [e] at h
    have h : ns[j]? = some n := h
    show (ns.map V.int)[j]? = _
    rw [List.getElem?_map, h]
    rfl
theorem ok2_ix : Ok2 K (rIx K) dIx := by
  intro B G H σ ρ x y dx dy Q QV R vx vy q k
  cases dy with
  | int i =>
    cases dx with
    | lst ds =>
      obtain ⟨d, e, q⟩ := ok_some q
      obtain ⟨a, us, rfl, ha, ra⟩ := vx.lst R.gh
      obtain ⟨v, e1, r1⟩ := rp_at ra e
      exact .inl ⟨a, us, i, v, rfl, vy.int, SqL.of ha, e1, k.dat R r1 q⟩
    | tup ds =>
      obtain ⟨d, e, q⟩ := ok_some q
      obtain ⟨a, us, rfl, ha, ra⟩ := vx.tup R.gh
      obtain ⟨v, e1, r1⟩ := rp_at ra e
      exact .inr (.inl ⟨a, us, i, v, rfl, vy.int, ha, e1, k.dat R r1 q⟩)
    | scr ns =>
      obtain ⟨n, e, q⟩ := ok_some q
      obtain ⟨a, rfl, ha⟩ := vx.scr R.gh
      exact .inl ⟨a, _, i, .int n, rfl, vy.int, ha, ints_at e, k.dat R (.int n) q⟩
    | str z =>
      obtain ⟨hz, q⟩ := q
      obtain ⟨c, e, q⟩ := ok_some q
      exact .inr (.inr ⟨z, i, c, vx.str, vy.int, hz, e, k.dat R (.str _) q⟩)
    | _ => exact q.elim
  | _ => cases dx <;> exact q.elim
theorem de_ix (ha : DE X a ta wa) (hb : DE X b tb wb) (hs : PlainIx b := by intro _ _; rfl) : DE X (.Subscript a b pos) (tOp (rIx X.K) ta tb) (wBin dIx wa wb) := ⟨pe_ix ix_seq ha.pe hb.pe hs, we_bin ok2_ix ha.we hb.we⟩
/-! ### slices -/
abbrev Wo := Sl → (Option Int → Sl → Prop) → Prop
def WOo (K : KT) (to : TO) (w : Wo) : Prop := ∀ (B : Addr → Prop) (G H : Hp) (σ : L2.St) (ρ : Sl) (Q : Option Int → Sl → Prop) (QV : Option Int → Hp → Prop), Rep K B G H σ ρ → w ρ Q →
  (∀ o G' H' ρ', Stp B G H G' H' → Rep K B G' H' σ ρ' → Q o ρ' → QV o H') → to σ H QV
structure DO (X : CxT) (e : Option Expr) (to : TO) (w : Wo) : Prop where
  po : PO X e to
  wo : WOo X.K to w
def wNoPart : Wo := fun ρ Q => Q none ρ
def wPart (w : We) : Wo := fun ρ Q => w ρ fun r ρ1 => match r with
  | .dat (.int i) => Q (some i) ρ1
  | _ => False
theorem do_none : DO X none tNoPart wNoPart := ⟨po_none, fun B G H σ ρ Q QV R q k => k none G H ρ .refl R q⟩
theorem do_some (h : DE X e te we) : DO X (some e) (tPart te) (wPart we) := ⟨po_some h.pe, fun B G H σ ρ Q QV R q k => h.we B G H σ ρ _ _ R q fun v G1 H1 ρ1 r S1 R1 rr q1 => by
  cases rr with
  | dat z =>
    cases z with
    | int i => exact ⟨i, rfl, k (some i) G1 H1 ρ1 S1 R1 q1⟩
    | _ => exact q1.elim
  | own => exact q1.elim
  | bor => exact q1.elim⟩
def cutP {α : Type} (xs : List α) (lo hi : Option Int) : List α := (xs.drop (HT.sIx xs.length 0 lo)).take (HT.sIx xs.length xs.length hi - HT.sIx xs.length 0 lo)
theorem cut_rp {G : Hp} {vs : List V} {ds : List PD} (r : RpAll K G vs ds) (lo hi : Option Int) : RpAll K G (cutV vs lo hi) (cutP ds lo hi) := by
  unfold cutV cutP
  rw [r.length]
  exact (r.drop _).take _
theorem cut_ints (ns : List Int) (lo hi : Option Int) : cutV (ns.map V.int) lo hi = (cutP ns lo hi).map V.int := by
  unfold cutV cutP
  rw [List.length_map, List.map_take, List.map_drop]
def rSl2 (K : PySem.W.Frag) : V → Option Int → Option Int → Hp → VK → Prop := fun x lo hi H Q => rSlL K x lo hi H Q ∨ rSlA K x lo hi H Q
def dSl (x : PD) (lo hi : Option Int) (k : Rz → Prop) : Prop := match x with
  | .lst xs => k (.own (.lst (cutP xs lo hi)))
  | .scr ns => k (.own (.lst ((cutP ns lo hi).map .int)))
  | .tup xs => k (.dat (.tup (cutP xs lo hi)))
  | _ => False
theorem cut_whole {α : Type} (xs : List α) (lo hi : Option Int) (h : HT.sIx xs.length 0 lo = 0 ∧ HT.sIx xs.length xs.length hi = xs.length) : cutP xs lo hi = xs := by
  unfold cutP
  rw [h.1, h.2]
  simp
def wSl (we : We) (wl wh : Wo) : We := fun ρ Q => we ρ fun r ρ1 => warm r ρ1 ∧ wl ρ1 fun lo ρ2 => wh ρ2 fun hi ρ3 => look r ρ3 fun x => dSl x lo hi fun r => Q r ρ3
theorem we_sl {tl th : TO} {wl wh : Wo} (h : WE K te we) (h1 : WOo K tl wl) (h2 : WOo K th wh) : WE K (tSl (rSl2 K) te tl th) (wSl we wl wh) := fun B G H σ ρ Q QV R q k =>
  h B G H σ ρ _ _ R q fun v G1 H1 ρ1 r S1 R1 rr ⟨c1, q1⟩ => by
    obtain ⟨G1', S1', R1', rr1', cc, ec⟩ := rr.cool R1 c1
    refine h1 B G1' H1 σ ρ1 _ _ R1' q1 fun lo G2 H2 ρ2 S2 R2 q2 => ?_
    refine h2 B G2 H2 σ ρ2 _ _ R2 q2 fun hi G3 H3 ρ3 S3 R3 q3 => ?_
    obtain ⟨x, ex, q3⟩ := ok_some q3
    have vw := (rr1'.stay (H' := H3) (ρ' := ρ3) cc (S2.g.trans S3.g)).vw R3 ((ec ρ3).trans ex)
    have kk : Gv K B G3 H3 σ ρ3 (fun r => Q r ρ3) QV := fun w G4 H4 res S4 R4 rr4 q4 => k w G4 H4 ρ3 res ((((S1.trans S1').trans S2).trans S3).trans S4) R4 rr4 q4
    cases x with
    | lst xs =>
      obtain ⟨a, us, rfl, ha, ra⟩ := vw.lst R3.gh
      exact .inl ⟨a, us, rfl, SqL.of ha, fun n hn => kk.new R3 hn (.lst (cut_rp ra lo hi)) q3⟩
    | scr ns =>
      obtain ⟨a, rfl, ha⟩ := vw.scr R3.gh
      refine .inl ⟨a, _, rfl, ha, fun n hn => ?_⟩
      rw [cut_ints]
      exact kk.new R3 hn (.lst (rp_ints _)) q3
    | tup xs =>
      have w := vw.tupR
      obtain ⟨a, us, rfl, ha, ra⟩ := vw.tup R3.gh
      refine .inr ⟨a, us, rfl, ha, fun hw => ?_, fun _ n hn => kk.tup R3 hn (cut_rp ra lo hi) q3⟩
      rw [ra.length] at hw
      have q3 : Q (.dat (.tup (cutP xs lo hi))) ρ3 := q3
      rw [cut_whole xs lo hi hw] at q3
      exact kk.dat R3 w q3
    | _ => exact q3.elim
theorem de_sl {lo hi : Option Expr} {tl th : TO} {wl wh : Wo} {p2 : Pos} (h : DE X e te we) (h1 : DO X lo tl wl) (h2 : DO X hi th wh) : DE X (.Subscript e (.Slice lo hi none p2) pos) (tSl (rSl2 X.K) te tl th) (wSl we wl wh) :=
  ⟨pe_slice (sl_list.or sl_tupA) h.pe h1.po h2.po, we_sl h.we h1.wo h2.wo⟩

/-! ### a slot's own thing, changed -/
theorem Rep.write {B : Addr → Prop} {G H : Hp} {σ : L2.St} {ρ : Sl} {i : Nat} {o o' : OD} {p : Addr} {ho' : HO} (R : Rep K B G H σ ρ) (hi : ρ[i]? = some (SD.own o)) (hs : σ[i]? = some (some (V.ref p))) (r : RO K G ho' o') :
    Rep K B G (upd H p ho') σ (ρ.set i (SD.own o')) ∧ Stp B G H G (upd H p ho') := by
  obtain ⟨q, ho, h1, h2, h3, h4, h5⟩ := R.own i o hi
  rw [hs] at h1; cases h1
  have hil : i < ρ.length := (List.getElem?_eq_some_iff.mp hi).1
  have S1 : Stp B G H G (upd H p ho') := ⟨Ex.refl G, fun _ _ h => h, fun _ _ h => h, fun a u hb h _ => by rw [upd_ne (nb_ne h4 hb)]; exact h, fun _ _ _ _ _ => rfl⟩
  refine ⟨⟨R.gh.right h3, R.tb.put h2 h5.nt h5.nc, R.z.step S1, fun a hb => ?_, by rw [List.length_set]; exact R.len, fun j d h => ?_, fun j u h => ?_, fun j k u w q x y z v => ?_⟩, S1⟩
  · exact (R.bh a hb).upd (nb_ne h4 hb)
  · by_cases z : j = i
    · subst z; rw [List.getElem?_set_self hil] at h; cases h
    · rw [List.getElem?_set_ne (Ne.symm z)] at h; exact R.dat j d h
  · by_cases z : j = i
    · subst z
      rw [List.getElem?_set_self hil] at h; cases h
      exact ⟨p, ho', hs, upd_same, h3, h4, r⟩
    · rw [List.getElem?_set_ne (Ne.symm z)] at h
      obtain ⟨q, hq, g1, g2, g3, g4, g5⟩ := R.own j u h
      have ne : q ≠ p := fun e => z (R.sep j i u o p h hi (by rw [g1, e]) hs)
      exact ⟨q, hq, g1, by rw [upd_ne ne]; exact g2, g3, g4, g5⟩
  · have get : ∀ m (s : OD), (ρ.set i (SD.own o'))[m]? = some (SD.own s) → ∃ s', ρ[m]? = some (SD.own s') := fun m s h => by
      by_cases z : m = i
      · subst z; exact ⟨o, hi⟩
      · rw [List.getElem?_set_ne (Ne.symm z)] at h; exact ⟨s, h⟩
    obtain ⟨u', x'⟩ := get j u x
    obtain ⟨w', y'⟩ := get k w y
    exact R.sep j k u' w' q x' y' z v
/-- the slot's own list, as it stands -/
def ownL (i : Nat) (ρ : Sl) (k : List PD → Prop) : Prop := match ρ[i]? with
  | some (.own (.lst xs)) => k xs
  | _ => False
theorem ownL_of {i : Nat} {ρ : Sl} {k : List PD → Prop} (h : ownL i ρ k) : ∃ xs, ρ[i]? = some (SD.own (.lst xs)) ∧ k xs := by
  unfold ownL at h
  split at h
  · rename_i xs e; exact ⟨xs, e, h⟩
  · exact h.elim
theorem Rep.lst {B : Addr → Prop} {G H : Hp} {σ : L2.St} {ρ : Sl} {i : Nat} {xs : List PD} (R : Rep K B G H σ ρ) (hi : ρ[i]? = some (SD.own (.lst xs))) : ∃ p vs, σ[i]? = some (some (V.ref p)) ∧ H p = some (.lst vs) ∧ RpAll K G vs xs := by
  obtain ⟨p, ho, h1, h2, h3, h4, h5⟩ := R.own i _ hi
  cases h5 with
  | lst r => exact ⟨p, _, h1, h2, r⟩
/-- xs.append(e) -/
def wAppend (i : Nat) (wa : Wa) : We := fun ρ Q => ownL i ρ fun _ => wa ρ fun rs ρ1 => frz rs ρ1 fun ds ρ2 => ownL i ρ2 fun xs => match ds with
  | [d] => xs.length < sizeLine ∧ Q (.dat .non) (ρ2.set i (.own (.lst (xs ++ [d]))))
  | _ => False
theorem RpAll.one {G : Hp} {vs : List V} {d : PD} (h : RpAll K G vs [d]) : ∃ v, vs = [v] ∧ Rp K G v d := by
  cases h with | cons h r => cases r; exact ⟨_, rfl, h⟩
theorem we_append {i : Nat} (h : WAa K t wr) : WE K (tBM K "list" rAppend (tVar i) t) (wAppend i wr) := fun B G H σ ρ Q QV R q k => by
  obtain ⟨xs0, e0, q⟩ := ownL_of q
  obtain ⟨p, vs0, hs, hp, r0⟩ := R.lst e0
  refine ⟨_, hs, Or.inl ⟨rfl, _, SqL.of hp⟩, ?_⟩
  refine h B G H σ ρ _ _ R q fun vs G1 H1 ρ1 rs S1 R1 rr q1 => ?_
  obtain ⟨⟨ds, ρ2⟩, e, q1⟩ := ok_some q1
  obtain ⟨G2, S2, R2, ra⟩ := frz_all R1 rr e
  obtain ⟨xs, e2, q1⟩ := ownL_of q1
  obtain ⟨p', vs', hs', hp', r'⟩ := R2.lst e2
  rw [hs] at hs'; cases hs'
  match ds, ra, q1 with
  | [d], ra, ⟨hz, q1⟩ =>
    obtain ⟨v, rfl, rv⟩ := ra.one
    obtain ⟨R3, S3⟩ := R2.write (ho' := .lst (vs' ++ [v])) e2 hs (.lst (r'.append (.cons rv .nil)))
    exact ⟨p, vs', v, rfl, rfl, hp', by rw [r'.length]; exact hz, k _ _ _ _ _ ((S1.trans S2).trans S3) R3 (.dat .non) q1⟩
/-- xs.extend(e) -/
def wExtend (i : Nat) (wa : Wa) : We := fun ρ Q => ownL i ρ fun _ => wa ρ fun rs ρ1 => looks rs ρ1 fun ds => ownL i ρ1 fun xs => match ds with
  | [.lst ys] => xs.length + ys.length ≤ sizeLine ∧ Q (.dat .non) (ρ1.set i (.own (.lst (xs ++ ys))))
  | _ => False
theorem we_extend {i : Nat} (h : WAa K t wr) : WE K (tBM K "list" rExtend (tVar i) t) (wExtend i wr) := fun B G H σ ρ Q QV R q k => by
  obtain ⟨xs0, e0, q⟩ := ownL_of q
  obtain ⟨p, vs0, hs, hp, r0⟩ := R.lst e0
  refine ⟨_, hs, Or.inl ⟨rfl, _, SqL.of hp⟩, ?_⟩
  refine h B G H σ ρ _ _ R q fun vs G1 H1 ρ1 rs S1 R1 rr q1 => ?_
  obtain ⟨ds, e, q1⟩ := ok_some q1
  have va := rr.vw R1 e
  obtain ⟨xs, e2, q1⟩ := ownL_of q1
  obtain ⟨p', vs', hs', hp', r'⟩ := R1.lst e2
  rw [hs] at hs'; cases hs'
  match ds, va, q1 with
  | [.lst ys], .cons v .nil, ⟨hz, q1⟩ =>
    obtain ⟨b, ws, rfl, hb, rb⟩ := v.lst R1.gh
    obtain ⟨R3, S3⟩ := R1.write (ho' := .lst (vs' ++ ws)) e2 hs (.lst (r'.append rb))
    exact ⟨p, b, vs', ws, rfl, rfl, hp', hb, by rw [r'.length, rb.length]; exact hz, k _ _ _ _ _ (S1.trans S3) R3 (.dat .non) q1⟩
/-- xs.pop(k), xs.pop() -/
def wPopAt (i : Nat) (wa : Wa) : We := fun ρ Q => ownL i ρ fun _ => wa ρ fun rs ρ1 => looks rs ρ1 fun ds => ownL i ρ1 fun xs => match ds with
  | [.int j] => (-(2 ^ 63) ≤ j ∧ j < 2 ^ 63) ∧ ok (seqIndex? j xs.length) fun k => ok (xs[k]?) fun d => Q (.dat d) (ρ1.set i (.own (.lst (xs.eraseIdx k))))
  | _ => False
theorem we_popAt {i : Nat} (h : WAa K t wr) : WE K (tBM K "list" rPopAt (tVar i) t) (wPopAt i wr) := fun B G H σ ρ Q QV R q k => by
  obtain ⟨xs0, e0, q⟩ := ownL_of q
  obtain ⟨p, vs0, hs, hp, r0⟩ := R.lst e0
  refine ⟨_, hs, Or.inl ⟨rfl, _, SqL.of hp⟩, ?_⟩
  refine h B G H σ ρ _ _ R q fun vs G1 H1 ρ1 rs S1 R1 rr q1 => ?_
  obtain ⟨ds, e, q1⟩ := ok_some q1
  have va := rr.vw R1 e
  obtain ⟨xs, e2, q1⟩ := ownL_of q1
  obtain ⟨p', vs', hs', hp', r'⟩ := R1.lst e2
  rw [hs] at hs'; cases hs'
  match ds, va, q1 with
  | [.int j], .cons v .nil, ⟨hb, q1⟩ =>
    obtain ⟨m, em, q1⟩ := ok_some q1
    obtain ⟨d, ed, q1⟩ := ok_some q1
    obtain ⟨u, hu, ru⟩ := r'.get ed
    obtain ⟨R3, S3⟩ := R1.write (ho' := .lst (vs'.eraseIdx m)) e2 hs (.lst (r'.eraseIdx m))
    exact ⟨p, vs', j, m, u, rfl, by rw [v.int], hp', hb.1, hb.2, by rw [r'.length]; exact em, hu, k _ _ _ _ _ (S1.trans S3) R3 (.dat ru) q1⟩
def wPop (i : Nat) : We := fun ρ Q => ownL i ρ fun xs => ok (xs[xs.length - 1]?) fun d => Q (.dat d) (ρ.set i (.own (.lst xs.dropLast)))
theorem we_pop {i : Nat} : WE K (tBM0 K "list" rPop (tVar i)) (wPop i) := fun B G H σ ρ Q QV R q k => by
  obtain ⟨xs, e0, q⟩ := ownL_of q
  obtain ⟨p, vs, hs, hp, r⟩ := R.lst e0
  obtain ⟨d, ed, q⟩ := ok_some q
  obtain ⟨u, hu, ru⟩ := r.get ed
  obtain ⟨R3, S3⟩ := R.write (ho' := .lst vs.dropLast) e0 hs (.lst r.dropLast)
  exact ⟨_, hs, Or.inl ⟨rfl, _, SqL.of hp⟩, p, vs, u, rfl, rfl, hp, by rw [r.length]; exact hu, k _ _ _ _ _ S3 R3 (.dat ru) q⟩
variable {x : Str} {apos cpos : Pos}
theorem de_append {i : Nat} (hv : DE X (.Name x p) (tVar i) (wVar i)) (h : DA X (e :: es) t wr) (hbase : attributeBase (.Name x p) "append" X.env (eval (.Name x p) X.env) = eval (.Name x p) X.env := by rfl)
    (hfew : ((backTo cpos (starEach (e :: es) X.env)).all (fun x => !x.1) && (backToKw cpos (keywordEach [] X.env)).all (fun x => x.1.isSome) && decide ((e :: es).length + ([] : List Keyword).length + (if ([] : List Keyword).isEmpty then 0 else 1) < 30)) = true := by rfl)
    (hline : (apos.endLine == cpos.line) = true := by rfl) (hs : starEach (e :: es) X.env = (false, eval e X.env) :: starEach es X.env := by rfl) (hplain : (backTo cpos (starEach es X.env)).any (·.1) = false := by rfl) :
    DE X (.Call (.Attribute (.Name x p) "append" apos) (e :: es) [] cpos) (tBM X.K "list" rAppend (tVar i) t) (wAppend i wr) := ⟨pe_bm PySem.F.plainAttrs_list PySem.F.slot_list_append PySem.F.type_list_append mt_append hv.pe h.pa hbase hfew hline hs hplain, we_append h.wa⟩
theorem de_extend {i : Nat} (hv : DE X (.Name x p) (tVar i) (wVar i)) (h : DA X (e :: es) t wr) (hbase : attributeBase (.Name x p) "extend" X.env (eval (.Name x p) X.env) = eval (.Name x p) X.env := by rfl)
    (hfew : ((backTo cpos (starEach (e :: es) X.env)).all (fun x => !x.1) && (backToKw cpos (keywordEach [] X.env)).all (fun x => x.1.isSome) && decide ((e :: es).length + ([] : List Keyword).length + (if ([] : List Keyword).isEmpty then 0 else 1) < 30)) = true := by rfl)
    (hline : (apos.endLine == cpos.line) = true := by rfl) (hs : starEach (e :: es) X.env = (false, eval e X.env) :: starEach es X.env := by rfl) (hplain : (backTo cpos (starEach es X.env)).any (·.1) = false := by rfl) :
    DE X (.Call (.Attribute (.Name x p) "extend" apos) (e :: es) [] cpos) (tBM X.K "list" rExtend (tVar i) t) (wExtend i wr) := ⟨pe_bm PySem.F.plainAttrs_list PySem.F.slot_list_extend PySem.F.type_list_extend mt_extend hv.pe h.pa hbase hfew hline hs hplain, we_extend h.wa⟩
theorem de_popAt {i : Nat} (hv : DE X (.Name x p) (tVar i) (wVar i)) (h : DA X (e :: es) t wr) (hbase : attributeBase (.Name x p) "pop" X.env (eval (.Name x p) X.env) = eval (.Name x p) X.env := by rfl)
    (hfew : ((backTo cpos (starEach (e :: es) X.env)).all (fun x => !x.1) && (backToKw cpos (keywordEach [] X.env)).all (fun x => x.1.isSome) && decide ((e :: es).length + ([] : List Keyword).length + (if ([] : List Keyword).isEmpty then 0 else 1) < 30)) = true := by rfl)
    (hline : (apos.endLine == cpos.line) = true := by rfl) (hs : starEach (e :: es) X.env = (false, eval e X.env) :: starEach es X.env := by rfl) (hplain : (backTo cpos (starEach es X.env)).any (·.1) = false := by rfl) :
    DE X (.Call (.Attribute (.Name x p) "pop" apos) (e :: es) [] cpos) (tBM X.K "list" rPopAt (tVar i) t) (wPopAt i wr) := ⟨pe_bm PySem.F.plainAttrs_list PySem.F.slot_list_pop PySem.F.type_list_pop mt_popAt hv.pe h.pa hbase hfew hline hs hplain, we_popAt h.wa⟩
theorem de_pop {i : Nat} (hv : DE X (.Name x p) (tVar i) (wVar i)) (hbase : attributeBase (.Name x p) "pop" X.env (eval (.Name x p) X.env) = eval (.Name x p) X.env := by rfl) (hline : (apos.endLine == cpos.line) = true := by rfl) :
    DE X (.Call (.Attribute (.Name x p) "pop" apos) [] [] cpos) (tBM0 X.K "list" rPop (tVar i)) (wPop i) := ⟨pe_bm0 PySem.F.plainAttrs_list PySem.F.slot_list_pop PySem.F.type_list_pop mt_pop hv.pe hbase hline, we_pop⟩
end
end DL

set_option Elab.async false
set_option linter.all false
set_option maxRecDepth 100000
set_option maxHeartbeats 2000000
namespace DL
open PySem L2
/-- what is wanted behind a statement -/
structure On where
  nx : Sl → Prop
  rt : Rz → Sl → Prop
  bk : Sl → Prop := fun _ => False
  ct : Sl → Prop := fun _ => False
abbrev Ws := On → Sl → Prop
/-- slots that are never stored to stay what they were -/
def Pn (T : Nat → Bool) (S0 σ : L2.St) : Prop := ∀ i, T i = true → σ[i]? = S0[i]?
theorem Pn.set {T : Nat → Bool} {S0 σ : L2.St} (h : Pn T S0 σ) {i : Nat} {v : Option V} (hi : T i = false) : Pn T S0 (σ.set i v) := fun j hj => by
  rw [List.getElem?_set_ne (fun z => by rw [z, hj] at hi; cases hi)]
  exact h j hj
def WSs (K : KT) (T : Nat → Bool) (ts : TS) (w : Ws) : Prop := ∀ (B : Addr → Prop) (G H : Hp) (σ S0 : L2.St) (ρ : Sl) (O : On) (D : Ends), Rep K B G H σ ρ → Pn T S0 σ → w O ρ →
  (∀ G' H' σ' ρ', Stp B G H G' H' → Rep K B G' H' σ' ρ' → Pn T S0 σ' → O.nx ρ' → D.nx σ' H') →
  (∀ G' H' σ' ρ' v r, Stp B G H G' H' → Rep K B G' H' σ' ρ' → Pn T S0 σ' → RR K B G' H' σ' ρ' v r → O.rt r ρ' → D.rt v H') →
  (∀ G' H' σ' ρ', Stp B G H G' H' → Rep K B G' H' σ' ρ' → Pn T S0 σ' → O.bk ρ' → D.bk σ' H') →
  (∀ G' H' σ' ρ', Stp B G H G' H' → Rep K B G' H' σ' ρ' → Pn T S0 σ' → O.ct ρ' → D.ct σ' H') → ts D σ H
structure DS (X : CxT) (T : Nat → Bool) (st : Stmt) (ts : TS) (w : Ws) : Prop where
  ps : PS X st ts
  ws : WSs X.K T ts w
structure DSs (X : CxT) (T : Nat → Bool) (st : List Stmt) (ts : TS) (w : Ws) : Prop where
  pss : PSs X st ts
  ws : WSs X.K T ts w
section
variable {X : CxT} {K : KT} {T : Nat → Bool} {st : Stmt} {rest : List Stmt} {t u : TS} {wt wu : Ws} {e : Expr} {te : TE} {we : We} {pos : Pos}
def wSeq (w u : Ws) : Ws := fun O ρ => w { O with nx := u O } ρ
def wNext : Ws := fun O ρ => O.nx ρ
theorem ws_next : WSs K T tNext wNext := fun B G H σ S0 ρ O D R P q kn kr kb kc => kn G H σ ρ .refl R P q
theorem ws_seq (h1 : WSs K T t wt) (h2 : WSs K T u wu) : WSs K T (tSeq t u) (wSeq wt wu) := fun B G H σ S0 ρ O D R P q kn kr kb kc =>
  h1 B G H σ S0 ρ _ _ R P q
    (fun G1 H1 σ1 ρ1 S1 R1 P1 q1 => h2 B G1 H1 σ1 S0 ρ1 O D R1 P1 q1 (fun G2 H2 σ2 ρ2 S2 => kn G2 H2 σ2 ρ2 (S1.trans S2)) (fun G2 H2 σ2 ρ2 v r S2 => kr G2 H2 σ2 ρ2 v r (S1.trans S2)) (fun G2 H2 σ2 ρ2 S2 => kb G2 H2 σ2 ρ2 (S1.trans S2)) (fun G2 H2 σ2 ρ2 S2 => kc G2 H2 σ2 ρ2 (S1.trans S2)))
    kr kb kc
theorem dss_nil : DSs X T [] tNext wNext := ⟨pss_nil, ws_next⟩
theorem dss_cons (h1 : DS X T st t wt) (h2 : DSs X T rest u wu) : DSs X T (st :: rest) (tSeq t u) (wSeq wt wu) := ⟨pss_cons h1.ps h2.pss, ws_seq h1.ws h2.ws⟩
theorem dss_one (h1 : DS X T st t wt) : DSs X T [st] t wt := ⟨pss_one h1.ps, h1.ws⟩
theorem ds_pass : DS X T (.Pass pos) tNext wNext := ⟨ps_pass, ws_next⟩
def wBreak : Ws := fun O ρ => O.bk ρ
def wCont : Ws := fun O ρ => O.ct ρ
theorem ds_break : DS X T (.Break pos) tBreak wBreak := ⟨ps_break, fun B G H σ S0 ρ O D R P q kn kr kb kc => kb G H σ ρ .refl R P q⟩
theorem ds_continue : DS X T (.Continue pos) tCont wCont := ⟨ps_continue, fun B G H σ S0 ρ O D R P q kn kr kb kc => kc G H σ ρ .refl R P q⟩
theorem ds_doc {x j pos pos'} : DS X T (.Expr (.Constant (.str x) j pos) pos') tNext wNext := ⟨ps_doc, ws_next⟩
def wDrop (we : We) : Ws := fun O ρ => we ρ fun _ ρ1 => O.nx ρ1
theorem ds_expr (h : DE X e te we) (hs : swapsWith e none pos.line X.env = pure false := by rfl) : DS X T (.Expr e pos) (tDrop te) (wDrop we) := ⟨ps_expr h.pe hs, fun B G H σ S0 ρ O D R P q kn kr kb kc =>
  h.we B G H σ ρ _ _ R q fun v G1 H1 ρ1 r S1 R1 rr q1 => kn G1 H1 σ ρ1 S1 R1 P q1⟩
def wRet (we : We) : Ws := fun O ρ => we ρ fun r ρ1 => O.rt r ρ1
theorem ds_ret (h : DE X e te we) : DS X T (.Return (some e) pos) (tRet te) (wRet we) := ⟨ps_ret h.pe, fun B G H σ S0 ρ O D R P q kn kr kb kc =>
  h.we B G H σ ρ _ _ R q fun v G1 H1 ρ1 r S1 R1 rr q1 => kr G1 H1 σ ρ1 v r S1 R1 P rr q1⟩
def wRetN : Ws := fun O ρ => O.rt (.dat .non) ρ
theorem ds_retN : DS X T (.Return none pos) tRetN wRetN := ⟨ps_retN, fun B G H σ S0 ρ O D R P q kn kr kb kc => kr G H σ ρ .non _ .refl R P (.dat .non) q⟩
variable {c : Expr} {a b : List Stmt} {tc : TT} {wc : Wt}
def wIfS (wc : Wt) (w u : Ws) : Ws := fun O ρ => wc ρ fun b ρ1 => match b with
  | true => w O ρ1
  | false => u O ρ1
theorem ds_if (hc : DT X c tc wc) (ha : DSs X T a t wt) (hb : DSs X T b u wu) : DS X T (.If c a b pos) (tIfS tc t u) (wIfS wc wt wu) := ⟨ps_if hc.pt ha.pss hb.pss, fun B G H σ S0 ρ O D R P q kn kr kb kc =>
  hc.wt B G H σ ρ _ (fun b H1 => if b = true then t D σ H1 else u D σ H1) R q fun b G1 H1 ρ1 S1 R1 q1 => by
    cases b with
    | true => rw [if_pos rfl]; exact ha.ws B G1 H1 σ S0 ρ1 O D R1 P q1 (fun G2 H2 σ2 ρ2 S2 => kn G2 H2 σ2 ρ2 (S1.trans S2)) (fun G2 H2 σ2 ρ2 v r S2 => kr G2 H2 σ2 ρ2 v r (S1.trans S2)) (fun G2 H2 σ2 ρ2 S2 => kb G2 H2 σ2 ρ2 (S1.trans S2)) (fun G2 H2 σ2 ρ2 S2 => kc G2 H2 σ2 ρ2 (S1.trans S2))
    | false => rw [if_neg Bool.false_ne_true]; exact hb.ws B G1 H1 σ S0 ρ1 O D R1 P q1 (fun G2 H2 σ2 ρ2 S2 => kn G2 H2 σ2 ρ2 (S1.trans S2)) (fun G2 H2 σ2 ρ2 v r S2 => kr G2 H2 σ2 ρ2 v r (S1.trans S2)) (fun G2 H2 σ2 ρ2 S2 => kb G2 H2 σ2 ρ2 (S1.trans S2)) (fun G2 H2 σ2 ρ2 S2 => kc G2 H2 σ2 ρ2 (S1.trans S2))⟩
/-! ### stores to a name -/
/-- the slot i takes a result -/
theorem Rep.emp {B : Addr → Prop} {G H : Hp} {σ : L2.St} {ρ : Sl} (R : Rep K B G H σ ρ) (i : Nat) : Rep K B G H σ (ρ.set i .emp) := by
  have get : ∀ (j : Nat) (s : SD), (ρ.set i .emp)[j]? = some s → s ≠ .emp → ρ[j]? = some s := fun j s h hs => by
    by_cases z : j = i
    · subst z
      by_cases hl : j < ρ.length
      · rw [List.getElem?_set_self hl] at h; cases h; exact absurd rfl hs
      · rw [List.getElem?_eq_none (by rw [List.length_set]; omega)] at h; cases h
    · rw [List.getElem?_set_ne (Ne.symm z)] at h; exact h
  refine ⟨R.gh, R.tb, R.z, R.bh, by rw [List.length_set]; exact R.len, fun j d h => R.dat j d (get j _ h (by intro z; cases z)), fun j o h => R.own j o (get j _ h (by intro z; cases z)), fun j k o u p x y z w => R.sep j k o u p (get j _ x (by intro z; cases z)) (get k _ y (by intro z; cases z)) z w⟩
theorem Rep.store {B : Addr → Prop} {G H : Hp} {σ : L2.St} {ρ : Sl} (R : Rep K B G H σ ρ) {i : Nat} {v : V} {s : SD} (hd : ∀ d, s = .dat d → Rp K G v d)
    (ho : ∀ o, s = .own o → ∃ p ho, v = .ref p ∧ H p = some ho ∧ G p = none ∧ ¬ B p ∧ RO K G ho o ∧ ∀ (j : Nat) (u : OD), j ≠ i → ρ[j]? = some (SD.own u) → σ[j]? ≠ some (some (V.ref p))) : Rep K B G H (σ.set i (some v)) (ρ.set i s) := by
  have get : ∀ (j : Nat) (s' : SD), (ρ.set i s)[j]? = some s' → (j = i ∧ s' = s ∧ (σ.set i (some v))[j]? = some (some v)) ∨ (j ≠ i ∧ ρ[j]? = some s' ∧ (σ.set i (some v))[j]? = σ[j]?) := fun j s' h => by
    by_cases z : j = i
    · subst z
      by_cases hl : j < ρ.length
      · rw [List.getElem?_set_self hl] at h; cases h
        exact .inl ⟨rfl, rfl, List.getElem?_set_self (by rw [R.len]; exact hl)⟩
      · rw [List.getElem?_eq_none (by rw [List.length_set]; omega)] at h; cases h
    · rw [List.getElem?_set_ne (Ne.symm z)] at h
      exact .inr ⟨z, h, List.getElem?_set_ne (Ne.symm z)⟩
  refine ⟨R.gh, R.tb, R.z, R.bh, by rw [List.length_set, List.length_set]; exact R.len, fun j d h => ?_, fun j o h => ?_, fun j k o u p x y z w => ?_⟩
  · rcases get j _ h with ⟨rfl, e, g⟩ | ⟨_, e, g⟩
    · exact ⟨v, g, hd d e.symm⟩
    · rw [g]; exact R.dat j d e
  · rcases get j _ h with ⟨rfl, e, g⟩ | ⟨_, e, g⟩
    · obtain ⟨p, hx, rfl, h1, h2, h3, h4, _⟩ := ho o e.symm
      exact ⟨p, hx, g, h1, h2, h3, h4⟩
    · rw [g]; exact R.own j o e
  · rcases get j _ x with ⟨rfl, e, g⟩ | ⟨n, e, g⟩
    · rcases get k _ y with ⟨rfl, e', g'⟩ | ⟨n', e', g'⟩
      · rfl
      · rw [g] at z; cases z
        obtain ⟨p', ho', ep, _, _, _, _, h5⟩ := ho o e.symm
        cases ep
        rw [g'] at w
        exact absurd w (h5 k u n' e')
    · rcases get k _ y with ⟨rfl, e', g'⟩ | ⟨n', e', g'⟩
      · rw [g'] at w; cases w
        obtain ⟨p', ho', ep, _, _, _, _, h5⟩ := ho u e'.symm
        cases ep
        rw [g] at z
        exact absurd z (h5 j o n e)
      · rw [g] at z; rw [g'] at w
        exact R.sep j k o u p e e' z w
/-- a result becomes what a slot holds: a slot's own thing moves -/
def into (r : Rz) (i : Nat) (ρ : Sl) : Option Sl := match r with
  | .dat d => some (ρ.set i (.dat d))
  | .own o => some (ρ.set i (.own o))
  | .bor j => match ρ[j]? with
    | some (.dat d) => some (ρ.set i (.dat d))
    | some (.own o) => if j = i then some ρ else some ((ρ.set j .emp).set i (.own o))
    | _ => none
theorem rep_into {B : Addr → Prop} {G H : Hp} {σ : L2.St} {ρ ρ' : Sl} {i : Nat} {v : V} {r : Rz} (R : Rep K B G H σ ρ) (h : RR K B G H σ ρ v r) (e : into r i ρ = some ρ') : Rep K B G H (σ.set i (some v)) ρ' := by
  cases h with
  | dat q => cases e; exact R.store (fun d z => by cases z; exact q) (fun o z => by cases z)
  | own h1 h2 h3 h4 h5 => cases e; exact R.store (fun d z => by cases z) (fun o z => by cases z; exact ⟨_, _, rfl, h1, h2, h3, h4, fun j u _ hj => h5 j u hj⟩)
  | bor q =>
    rename_i j
    unfold into at e
    cases ej : ρ[j]? with
    | none => simp only [ej] at e; cases e
    | some s =>
      cases s with
      | emp => simp only [ej] at e; cases e
      | dat d =>
        simp only [ej] at e; cases e
        obtain ⟨w, w1, w2⟩ := R.dat _ _ ej
        rw [q] at w1; cases w1
        exact R.store (fun d z => by cases z; exact w2) (fun o z => by cases z)
      | own o =>
        simp only [ej] at e
        obtain ⟨p, ho, w1, h1, h2, h3, h4⟩ := R.own _ _ ej
        rw [q] at w1; cases w1
        by_cases z : j = i
        · rw [if_pos z] at e; cases e
          subst z
          have : σ.set j (some (V.ref p)) = σ := by
            apply List.ext_getElem?
            intro m
            by_cases hm : m = j
            · subst hm
              rw [List.getElem?_set_self (List.getElem?_eq_some_iff.mp q).1, q]
            · rw [List.getElem?_set_ne (Ne.symm hm)]
          rw [this]; exact R
        · rw [if_neg z] at e; cases e
          refine (R.emp j).store (fun d z => by cases z) (fun o' z' => ?_)
          cases z'
          refine ⟨p, ho, rfl, h1, h2, h3, h4, fun m u hm hj hq => ?_⟩
          by_cases hmj : m = j
          · subst hmj
            rw [List.getElem?_set_self (List.getElem?_eq_some_iff.mp ej).1] at hj; cases hj
          · rw [List.getElem?_set_ne (Ne.symm hmj)] at hj
            exact hmj (R.sep m j u o p hj ej hq q)
/-- x = e -/
def wSet (i : Nat) (we : We) : Ws := fun O ρ => we ρ fun r ρ1 => ok (into r i ρ1) O.nx
theorem ws_set {i : Nat} (hi : T i = false) (h : WE K te we) : WSs K T (tAsg te (gName i)) (wSet i we) := fun B G H σ S0 ρ O D R P q kn kr kb kc =>
  h B G H σ ρ _ _ R q fun v G1 H1 ρ1 r S1 R1 rr q1 => by
    obtain ⟨ρ2, e, q1⟩ := ok_some q1
    exact kn G1 H1 _ ρ2 S1 (rep_into R1 rr e) (P.set hi) q1
/-- x = e, e frozen -/
def wSetF (i : Nat) (we : We) : Ws := fun O ρ => we ρ fun r ρ1 => warm r ρ1 ∧ frz [r.cool] ρ1 fun ds ρ2 => match ds with
  | [d] => O.nx (ρ2.set i (.dat d))
  | _ => False
theorem ws_setF {i : Nat} (hi : T i = false) (h : WE K te we) : WSs K T (tAsg te (gName i)) (wSetF i we) := fun B G H σ S0 ρ O D R P q kn kr kb kc =>
  h B G H σ ρ _ _ R q fun v G1 H1 ρ1 r S1 R1 rr ⟨c1, q1⟩ => by
    obtain ⟨G1', S1', R1', rr1', cc, ec⟩ := rr.cool R1 c1
    obtain ⟨⟨ds, ρ2⟩, e, q1⟩ := ok_some q1
    obtain ⟨G2, S2, R2, ra⟩ := frz_all R1' (.cons rr1' cc .nil) e
    match ds, ra, q1 with
    | [d], ra, q1 =>
      obtain ⟨w, e, rw'⟩ := ra.one
      cases e
      exact kn G2 H1 _ _ ((S1.trans S1').trans S2) (R2.store (fun d' z => by cases z; exact rw') (fun o z => by cases z)) (P.set hi) q1
variable {x : Str} {pos' : Pos}
theorem ds_set {i : Nat} (hT : T i = false) (hN : X.N.Nodup) (hi : X.N[i]? = some x) (hx : Loc X.env.scope x) (h : DE X e te we) (hs : swapsWith e (some (.Name x pos')) pos.line X.env = pure false := by rfl) (hf : X.fn x = true ∨ X.env.scope.names.lookup x = some .local := by first | exact .inl rfl | exact .inr rfl | assumption) :
    DS X T (.Assign [.Name x pos'] e pos) (tAsg te (gName i)) (wSet i we) := ⟨ps_set hN hi hx h.pe hs hf, ws_set hT h.we⟩
theorem ds_setF {i : Nat} (hT : T i = false) (hN : X.N.Nodup) (hi : X.N[i]? = some x) (hx : Loc X.env.scope x) (h : DE X e te we) (hs : swapsWith e (some (.Name x pos')) pos.line X.env = pure false := by rfl) (hf : X.fn x = true ∨ X.env.scope.names.lookup x = some .local := by first | exact .inl rfl | exact .inr rfl | assumption) :
    DS X T (.Assign [.Name x pos'] e pos) (tAsg te (gName i)) (wSetF i we) := ⟨ps_set hN hi hx h.pe hs hf, ws_setF hT h.we⟩
/-- a, b = x, y -/
def wPar (i j : Nat) (wa : Wa) : Ws := fun O ρ => wa ρ fun rs ρ1 => frz rs ρ1 fun ds ρ2 => match ds with
  | [d, d'] => O.nx ((ρ2.set i (.dat d)).set j (.dat d'))
  | _ => False
theorem ws_par {i j : Nat} {ta : TA} {wa : Wa} (hi : T i = false) (hj : T j = false) (h : WAa K ta wa) : WSs K T (tPar i j ta) (wPar i j wa) := fun B G H σ S0 ρ O D R P q kn kr kb kc =>
  h B G H σ ρ _ _ R q fun vs G1 H1 ρ1 rs S1 R1 rr q1 => by
    obtain ⟨⟨ds, ρ2⟩, e, q1⟩ := ok_some q1
    obtain ⟨G2, S2, R2, ra⟩ := frz_all R1 rr e
    match ds, ra, q1 with
    | [d, d'], .cons h1 (.cons h2 .nil), q1 =>
      exact ⟨_, _, rfl, kn G2 H1 _ _ (S1.trans S2) ((R2.store (fun d' z => by cases z; exact h1) (fun o z => by cases z)).store (fun d' z => by cases z; exact h2) (fun o z => by cases z)) ((P.set hi).set hj) q1⟩
/-- a, b = x, y where what is made for x, y stays one's own: each result to its slot -/
theorem ds_par {i j : Nat} {x y : Str} {a b : Expr} {ta : TA} {wa : Wa} {px py pt : Pos} {kt k2 pt2} (hTi : T i = false) (hTj : T j = false) (hc : X.calm = true) (hN : X.N.Nodup) (hi : X.N[i]? = some x) (hj : X.N[j]? = some y) (hij : i ≠ j)
    (hx : X.env.scope.names.lookup x = some .local) (hy : X.env.scope.names.lookup y = some .local) (ha : DA X [a, b] ta wa)
    (hw : swappedStores [.Tuple [.Name x px, .Name y py] kt pt] (.Tuple [a, b] k2 pt2) X.env = pure (some [x, y]))
    (hs : swapsWithSole [.Tuple [.Name x px, .Name y py] kt pt] (.Tuple [a, b] k2 pt2) pos.line X.env = pure false := by rfl) :
    DS X T (.Assign [.Tuple [.Name x px, .Name y py] kt pt] (.Tuple [a, b] k2 pt2) pos) (tPar i j ta) (wPar i j wa) := ⟨ps_par hc hN hi hj hij hx hy ha.pa hw hs, ws_par hTi hTj ha.wa⟩
/-! ### targets -/
abbrev Wg := PD → Sl → (Sl → Prop) → Prop
def WGg (K : KT) (T : Nat → Bool) (g : TG) (w : Wg) : Prop := ∀ (B : Addr → Prop) (G H : Hp) (σ S0 : L2.St) (ρ : Sl) (v : V) (d : PD) (Q : Sl → Prop) (QV : L2.St → Hp → Prop), Rep K B G H σ ρ → Pn T S0 σ → Rp K G v d → w d ρ Q →
  (∀ σ' ρ', Rep K B G H σ' ρ' → Pn T S0 σ' → Q ρ' → QV σ' H) → g v σ H QV
def wName (i : Nat) : Wg := fun d ρ Q => Q (ρ.set i (.dat d))
theorem wg_name {i : Nat} (hi : T i = false) : WGg K T (gName i) (wName i) := fun B G H σ S0 ρ v d Q QV R P r q k =>
  k _ _ (R.store (fun d' z => by cases z; exact r) (fun o z => by cases z)) (P.set hi) q
abbrev Wgs := List PD → Sl → (Sl → Prop) → Prop
def WGs (K : KT) (T : Nat → Bool) (g : TGs) (w : Wgs) : Prop := ∀ (B : Addr → Prop) (G H : Hp) (σ S0 : L2.St) (ρ : Sl) (vs : List V) (ds : List PD) (Q : Sl → Prop) (QV : L2.St → Hp → Prop), Rep K B G H σ ρ → Pn T S0 σ → RpAll K G vs ds → w ds ρ Q →
  (∀ σ' ρ', Rep K B G H σ' ρ' → Pn T S0 σ' → Q ρ' → QV σ' H) → g vs σ H QV
def wgNil : Wgs := fun ds ρ Q => match ds with
  | [] => Q ρ
  | _ => False
def wgCons (w : Wg) (u : Wgs) : Wgs := fun ds ρ Q => match ds with
  | d :: ds => w d ρ fun ρ' => u ds ρ' Q
  | [] => False
theorem wgs_nil : WGs K T gNil wgNil := fun B G H σ S0 ρ vs ds Q QV R P r q k => by
  cases r with
  | nil => exact ⟨rfl, k σ ρ R P q⟩
  | cons => exact q.elim
theorem wgs_cons {g : TG} {u : TGs} {w : Wg} {wu : Wgs} (h : WGg K T g w) (h' : WGs K T u wu) : WGs K T (gCons g u) (wgCons w wu) := fun B G H σ S0 ρ vs ds Q QV R P r q k => by
  cases r with
  | nil => exact q.elim
  | cons r rr => exact ⟨_, _, rfl, h B G H σ S0 ρ _ _ _ _ R P r q fun σ' ρ' R' P' q' => h' B G H σ' S0 ρ' _ _ Q QV R' P' rr q' k⟩
def wgTup (n : Nat) (w : Wgs) : Wg := fun d ρ Q => match d with
  | .tup ds => ds.length = n ∧ w ds ρ Q
  | _ => False
theorem wg_tup {n : Nat} {g : TGs} {w : Wgs} (h : WGs K T g w) : WGg K T (gTup K n g) (wgTup n w) := fun B G H σ S0 ρ v d Q QV R P r q k => by
  cases r with
  | tup hs ra => exact ⟨_, _, rfl, ex_t R.gh hs, by rw [ra.length]; exact q.1, h B G H σ S0 ρ _ _ Q QV R P ra q.2 k⟩
  | _ => exact q.elim
structure DG (X : CxT) (T : Nat → Bool) (tg : Expr) (g : TG) (w : Wg) : Prop where
  pg : PG X tg g
  wg : WGg X.K T g w
structure DGs (X : CxT) (T : Nat → Bool) (tg : List Expr) (g : TGs) (w : Wgs) : Prop where
  pgs : PGs X tg g
  wgs : WGs X.K T g w
theorem dg_name {i : Nat} (hT : T i = false) (hN : X.N.Nodup) (hi : X.N[i]? = some x) (hx : Loc X.env.scope x) (hf : X.fn x = true ∨ X.env.scope.names.lookup x = some .local := by first | exact .inl rfl | exact .inr rfl | assumption) : DG X T (.Name x pos) (gName i) (wName i) := ⟨pg_name hN hi hx hf, wg_name hT⟩
theorem dgs_nil : DGs X T [] gNil wgNil := ⟨pgs_nil, wgs_nil⟩
theorem dgs_cons {e : Expr} {es : List Expr} {g : TG} {u : TGs} {w : Wg} {wu : Wgs} (h : DG X T e g w) (h' : DGs X T es u wu) (hs : (assignEach (e :: es) X.env).map (·.2) = assign e X.env :: (assignEach es X.env).map (·.2) := by rfl) : DGs X T (e :: es) (gCons g u) (wgCons w wu) := ⟨pgs_cons h.pg h'.pgs hs, wgs_cons h.wg h'.wgs⟩
theorem dg_tup {es : List Expr} {k : Nat} {g : TGs} {w : Wgs} {n : Nat} (hc : X.calm = true) (h : DGs X T es g w) (hn : (assignEach es X.env).length = n := by rfl) (hst : (assignEach es X.env).findIdx? (·.1) = none := by rfl) : DG X T (.Tuple es k pos) (gTup X.K n g) (wgTup n w) := ⟨pg_tup hc h.pgs hn hst, wg_tup h.wgs⟩
/-- (a, b, ..) = e -/
def wUnp (we : We) (wg : Wg) : Ws := fun O ρ => we ρ fun r ρ1 => warm r ρ1 ∧ frz [r.cool] ρ1 fun ds ρ2 => match ds with
  | [d] => wg d ρ2 O.nx
  | _ => False
theorem ws_unp {g : TG} {w : Wg} (h : WE K te we) (hg : WGg K T g w) : WSs K T (tAsg te g) (wUnp we w) := fun B G H σ S0 ρ O D R P q kn kr kb kc =>
  h B G H σ ρ _ _ R q fun v G1 H1 ρ1 r S1 R1 rr ⟨c1, q1⟩ => by
    obtain ⟨G1', S1', R1', rr1', cc, ec⟩ := rr.cool R1 c1
    obtain ⟨⟨ds, ρ2⟩, e, q1⟩ := ok_some q1
    obtain ⟨G2, S2, R2, ra⟩ := frz_all R1' (.cons rr1' cc .nil) e
    match ds, ra, q1 with
    | [d], ra, q1 =>
      obtain ⟨w, e, rw'⟩ := ra.one
      cases e
      exact hg B G2 H1 σ S0 ρ2 v d O.nx D.nx R2 P rw' q1 fun σ' ρ' R' P' q' => kn G2 H1 σ' ρ' ((S1.trans S1').trans S2) R' P' q'
theorem ds_unp {tg : Expr} {g : TG} {w : Wg} (h : DE X e te we) (hg : DG X T tg g w) (hs : swapsWithSole [tg] e pos.line X.env = pure false := by rfl) (hw : swappedStores [tg] e X.env = pure none := by rfl) (h1 : (assignEach [tg] X.env).map (·.2) = [assign tg X.env] := by rfl) :
    DS X T (.Assign [tg] e pos) (tAsg te g) (wUnp we w) := ⟨ps_asg h.pe hg.pg hs hw h1, ws_unp h.we hg.wg⟩
/-- xs[i] = e, xs a slot's own list -/
def wSetIx (i : Nat) (we wi : We) : Ws := fun O ρ => we ρ fun r ρ1 => warm r ρ1 ∧ frz [r.cool] ρ1 fun ds ρ2 => ownL i ρ2 fun _ => wi ρ2 fun ri ρ3 => match ds, ri with
  | [d], .dat (.int k) => ownL i ρ3 fun xs => ok (ixN xs.length k) fun j => O.nx (ρ3.set i (.own (.lst (xs.set j d))))
  | _, _ => False
theorem ws_setIx {i : Nat} {ti : TE} {wi : We} (h : WE K te we) (h' : WE K ti wi) : WSs K T (tAsg te (gSub (tVar i) ti rSetL)) (wSetIx i we wi) := fun B G H σ S0 ρ O D R P q kn kr kb kc =>
  h B G H σ ρ _ _ R q fun v G1 H1 ρ1 r S1 R1 rr ⟨c1, q1⟩ => by
    obtain ⟨G1', S1', R1', rr1', cc, ec⟩ := rr.cool R1 c1
    obtain ⟨⟨ds, ρ2⟩, e, q1⟩ := ok_some q1
    obtain ⟨G2, S2, R2, ra⟩ := frz_all R1' (.cons rr1' cc .nil) e
    obtain ⟨xs0, e0, q1⟩ := ownL_of q1
    obtain ⟨p, vs0, hs, _, _⟩ := R2.lst e0
    refine ⟨_, hs, ?_⟩
    refine h' B G2 H1 σ ρ2 _ _ R2 q1 fun u G3 H3 ρ3 ri S3 R3 rr3 q3 => ?_
    match ds, ri, ra, rr3, q3 with
    | [d], .dat (.int k), ra, .dat (.int _), q3 =>
      obtain ⟨w, ew, rw'⟩ := ra.one
      cases ew
      obtain ⟨xs, e2, q3⟩ := ownL_of q3
      obtain ⟨j, ej, q3⟩ := ok_some q3
      obtain ⟨p', vs, hs', hp, r'⟩ := R3.lst e2
      rw [hs] at hs'; cases hs'
      obtain ⟨R4, S4⟩ := R3.write (ho' := .lst (vs.set j v)) e2 hs (.lst (r'.set (rw'.mono S3.g) j))
      exact ⟨p, vs, k, j, rfl, rfl, hp, by rw [r'.length]; exact ej, kn G3 _ σ _ ((((S1.trans S1').trans S2).trans S3).trans S4) R4 P q3⟩
variable {o i0 : Expr}
theorem ds_setIx {i : Nat} {ti : TE} {wi : We} {p2 : Pos} (h : DE X e te we) (ho : DE X (.Name x p2) (tVar i) (wVar i)) (h' : DE X i0 ti wi) (ha : ∀ v, assign (.Subscript (.Name x p2) i0 pos') X.env v = (do
      let ov ← holding [v] (eval (.Name x p2) X.env)
      let iv ← holding [v, ov] (eval i0 X.env)
      standAt pos'
      holding [v, ov, iv] (setItem ov iv v)
      release [v, ov, iv] []) := by intro _; rfl) (hs : swapsWithSole [.Subscript (.Name x p2) i0 pos'] e pos.line X.env = pure false := by rfl) (hw : swappedStores [.Subscript (.Name x p2) i0 pos'] e X.env = pure none := by rfl) (h1 : (assignEach [.Subscript (.Name x p2) i0 pos'] X.env).map (·.2) = [assign (.Subscript (.Name x p2) i0 pos') X.env] := by rfl) :
    DS X T (.Assign [.Subscript (.Name x p2) i0 pos'] e pos) (tAsg te (gSub (tVar i) ti rSetL)) (wSetIx i we wi) := ⟨ps_asg h.pe (pg_sub ho.pe h'.pe set_list ha) hs hw h1, ws_setIx h.we h'.we⟩
end
end DL

set_option Elab.async false
set_option linter.all false
set_option maxRecDepth 100000
set_option maxHeartbeats 2000000
namespace DL
open PySem L2
section
variable {X : CxT} {K : KT} {T : Nat → Bool} {e : Expr} {es : List Expr} {te : TE} {t : TA} {we : We} {wr : Wa} {pos : Pos}
/-! ### results that stay one's own: a, b = x, y -/
def adr (v : V) (r : Rz) (a : Addr) : Prop := ∃ o, r = .own o ∧ v = .ref a
inductive RRh (K : KT) (G H : Hp) (σ : L2.St) (ρ : Sl) : (Addr → Prop) → List V → List Rz → Prop
  | nil {B : Addr → Prop} : RRh K G H σ ρ B [] []
  | cons {B : Addr → Prop} {v : V} {vs : List V} {r : Rz} {rs : List Rz} : RR K B G H σ ρ v r → RRh K G H σ ρ (fun a => B a ∨ adr v r a) vs rs → RRh K G H σ ρ B (v :: vs) (r :: rs)
def WAh (K : KT) (ta : TA) (w : Wa) : Prop := ∀ (B : Addr → Prop) (G H : Hp) (σ : L2.St) (ρ : Sl) (Q : List Rz → Sl → Prop) (QV : List V → Hp → Prop), Rep K B G H σ ρ → w ρ Q →
  (∀ vs G' H' ρ' rs, Stp B G H G' H' → Rep K B G' H' σ ρ' → RRh K G' H' σ ρ' B vs rs → Q rs ρ' → QV vs H') → ta σ H QV
def wConsH (we : We) (wr : Wa) : Wa := fun ρ Q => we ρ fun r ρ1 => wr ρ1 fun rs ρ2 => Q (r :: rs) ρ2
theorem Rep.weak {B B' : Addr → Prop} {G H : Hp} {σ : L2.St} {ρ : Sl} (R : Rep K B' G H σ ρ) (b0 : ∀ a, K.B0 a → B a) (w : ∀ a, B a → B' a) : Rep K B G H σ ρ :=
  ⟨R.gh, R.tb, ⟨b0, R.z.s, R.z.m, R.z.m2⟩, fun a h => R.bh a (w a h), R.len, R.dat, fun i o h => let ⟨p, ho, h1, h2, h3, h4, h5⟩ := R.own i o h; ⟨p, ho, h1, h2, h3, fun z => h4 (w p z), h5⟩, R.sep⟩
/-- a temporary is kept while others are reckoned -/
theorem Rep.keep {B : Addr → Prop} {G H : Hp} {σ : L2.St} {ρ : Sl} {v : V} {r : Rz} (R : Rep K B G H σ ρ) (h : RR K B G H σ ρ v r) : Rep K (fun a => B a ∨ adr v r a) G H σ ρ := by
  refine ⟨R.gh, R.tb, R.z.more fun _ z => .inl z, fun a ha => ?_, R.len, R.dat, fun i o hi => ?_, R.sep⟩
  · rcases ha with ha | ⟨o, rfl, rfl⟩
    · exact R.bh a ha
    · cases h with
      | own h1 _ _ h4 => exact ⟨_, h1, h4.nt⟩
  · obtain ⟨p, ho, h1, h2, h3, h4, h5⟩ := R.own i o hi
    refine ⟨p, ho, h1, h2, h3, fun z => ?_, h5⟩
    rcases z with z | ⟨u, rfl, rfl⟩
    · exact h4 z
    · cases h with
      | own _ _ _ _ g5 => exact g5 i o hi h1
theorem RR.kept {B : Addr → Prop} {G H G' H' : Hp} {σ : L2.St} {ρ ρ' : Sl} {v : V} {r : Rz} (h : RR K B G H σ ρ v r) (S : Stp (fun a => B a ∨ adr v r a) G H G' H') (R' : Rep K (fun a => B a ∨ adr v r a) G' H' σ ρ') : RR K B G' H' σ ρ' v r := by
  cases h with
  | dat q => exact .dat (q.mono S.g)
  | bor q => exact .bor q
  | own h1 h2 h3 h4 h5 =>
    refine .own (S.h _ _ (.inr ⟨_, rfl, rfl⟩) h1 h4.nt) ((S.n _ _ (.inr ⟨_, rfl, rfl⟩) h1 h4.ow).trans h2) h3 (h4.mono S.g) fun i u hi hz => ?_
    obtain ⟨q, hq, g1, g2, g3, g4, g5⟩ := R'.own i u hi
    rw [hz] at g1; cases g1
    exact g4 (.inr ⟨_, rfl, rfl⟩)
theorem wah_nil : WAh K tNil wNil := fun B G H σ ρ Q QV R q k => k [] G H ρ [] .refl R .nil q
theorem wah_cons (he : WE K te we) (hr : WAh K t wr) : WAh K (tCons te t) (wConsH we wr) := fun B G H σ ρ Q QV R q k =>
  he B G H σ ρ _ _ R q fun v G1 H1 ρ1 r S1 R1 rr q1 => by
    refine hr _ G1 H1 σ ρ1 _ _ (R1.keep rr) q1 fun vs G2 H2 ρ2 rs S2 R2 rrs q2 => ?_
    exact k (v :: vs) G2 H2 ρ2 (r :: rs) (S1.trans (S2.weak fun _ z => .inl z)) (R2.weak R.z.b fun _ z => .inl z) (.cons (rr.kept S2 R2) rrs) q2
structure DAh (X : CxT) (es : List Expr) (ta : TA) (w : Wa) : Prop where
  pa : PA X es ta
  wa : WAh X.K ta w
theorem dah_nil : DAh X [] tNil wNil := ⟨pa_nil, wah_nil⟩
theorem dah_cons (he : DE X e te we) (hr : DAh X es t wr) (hs : starEach (e :: es) X.env = (false, eval e X.env) :: starEach es X.env := by rfl) : DAh X (e :: es) (tCons te t) (wConsH we wr) := ⟨pa_cons he.pe hr.pa hs, wah_cons he.we hr.wa⟩
/-- the slots take the results, one after another; none is a slot's thing -/
def Rz.sd : Rz → Option SD
  | .dat d => some (.dat d)
  | .own o => some (.own o)
  | .bor _ => none
def puts : List Nat → List Rz → Sl → Option Sl
  | [], [], ρ => some ρ
  | i :: is, r :: rs, ρ => match r.sd with
    | some s => puts is rs (ρ.set i s)
    | none => none
  | _, _, _ => none
def setAll : List Nat → List V → L2.St → L2.St
  | i :: is, v :: vs, σ => setAll is vs (σ.set i (some v))
  | _, _, σ => σ
theorem RRh.stored {G H : Hp} {σ : L2.St} {ρ : Sl} {i : Nat} {v : V} {r : Rz} {s : SD} (hs : r.sd = some s) : ∀ {vs : List V} {rs : List Rz} {B : Addr → Prop}, (∀ a, adr v r a → B a) → RRh K G H σ ρ B vs rs → (∀ r' ∈ rs, r'.sd ≠ none) → RRh K G H (σ.set i (some v)) (ρ.set i s) B vs rs
  | _, _, _, _, .nil, _ => .nil
  | v' :: vs, r' :: rs, B, hB, .cons h t, hf => by
    refine .cons ?_ (RRh.stored hs (fun a ha => .inl (hB a ha)) t fun r'' hr => hf r'' (List.mem_cons_of_mem _ hr))
    cases h with
    | dat q => exact .dat q
    | bor q => exact absurd rfl (hf _ List.mem_cons_self)
    | own h1 h2 h3 h4 h5 =>
      refine .own h1 h2 h3 h4 fun j u hj hz => ?_
      by_cases z : j = i
      · subst z
        by_cases hl : j < ρ.length
        · rw [List.getElem?_set_self hl] at hj
          cases hj
          by_cases hl2 : j < σ.length
          · rw [List.getElem?_set_self hl2] at hz
            cases hz
            cases r with
            | own o => exact h3 (hB _ ⟨o, rfl, rfl⟩)
            | dat d => cases hs
            | bor k => cases hs
          · rw [List.getElem?_eq_none (by rw [List.length_set]; omega)] at hz; cases hz
        · rw [List.getElem?_eq_none (by rw [List.length_set]; omega)] at hj; cases hj
      · rw [List.getElem?_set_ne (Ne.symm z)] at hj hz
        exact h5 j u hj hz
theorem RRh.weak {G H : Hp} {σ : L2.St} {ρ : Sl} : ∀ {vs : List V} {rs : List Rz} {B B' : Addr → Prop}, RRh K G H σ ρ B' vs rs → (∀ a, B a → B' a) → RRh K G H σ ρ B vs rs
  | _, _, _, _, .nil, _ => .nil
  | _, _, _, _, .cons h t, w => by
    refine .cons ?_ (RRh.weak t fun a z => z.elim (fun z => .inl (w a z)) .inr)
    cases h with
    | dat q => exact .dat q
    | bor q => exact .bor q
    | own h1 h2 h3 h4 h5 => exact .own h1 h2 (fun z => h3 (w _ z)) h4 h5
theorem rep_puts {G H : Hp} : ∀ {is : List Nat} {rs : List Rz} {vs : List V} {B : Addr → Prop} {σ : L2.St} {ρ ρ' : Sl}, Rep K B G H σ ρ → RRh K G H σ ρ B vs rs → puts is rs ρ = some ρ' → Rep K B G H (setAll is vs σ) ρ'
  | [], [], [], _, _, _, _, R, .nil, e => by cases e; exact R
  | i :: is, r :: rs, v :: vs, B, σ, ρ, ρ', R, .cons h t, e => by
    unfold puts at e
    cases es : r.sd with
    | none => simp only [es] at e; cases e
    | some s =>
      simp only [es] at e
      have hf : ∀ (is : List Nat) (rs : List Rz) (ρ : Sl), puts is rs ρ = some ρ' → ∀ r' ∈ rs, r'.sd ≠ none := by
        intro is rs
        induction rs generalizing is with
        | nil => intro ρ _ r' hr; cases hr
        | cons r0 rs ih =>
          intro ρ h r' hr
          cases is with
          | nil => cases h
          | cons i0 is =>
            unfold puts at h
            cases e0 : r0.sd with
            | none => simp only [e0] at h; cases h
            | some s0 =>
              simp only [e0] at h
              rcases List.mem_cons.mp hr with rfl | hr
              · rw [e0]; intro z; cases z
              · exact ih is _ h r' hr
      have hf' := hf is rs _ e
      have R2 : Rep K B G H (σ.set i (some v)) (ρ.set i s) := by
        cases h with
        | dat q => cases es; exact R.store (fun d z => by cases z; exact q) (fun o z => by cases z)
        | own h1 h2 h3 h4 h5 => cases es; exact R.store (fun d z => by cases z) (fun o z => by cases z; exact ⟨_, _, rfl, h1, h2, h3, h4, fun j u _ hj => h5 j u hj⟩)
        | bor q => cases es
      have t2 := RRh.stored (i := i) es (fun a ha => .inr ha) t hf'
      show Rep K B G H (setAll is vs (σ.set i (some v))) ρ'
      exact rep_puts (is := is) (rs := rs) R2 (t2.weak fun a z => Or.inl z) e
/-- a, b = x, y; a, b, c = x, y, z -/
def wPuts (is : List Nat) (wa : Wa) : Ws := fun O ρ => wa ρ fun rs ρ1 => ok (puts is rs ρ1) O.nx
theorem puts_len : ∀ {is : List Nat} {rs : List Rz} {ρ ρ' : Sl}, puts is rs ρ = some ρ' → rs.length = is.length := by
  intro is
  induction is with
  | nil => intro rs ρ ρ' h; cases rs with | nil => rfl | cons => cases h
  | cons i is ih =>
    intro rs ρ ρ' h
    cases rs with
    | nil => cases h
    | cons r rs =>
      unfold puts at h
      cases e : r.sd with
      | none => simp only [e] at h; cases h
      | some s => simp only [e] at h; rw [List.length_cons, List.length_cons, ih h]
theorem RRh.length {G H : Hp} {σ : L2.St} {ρ : Sl} : ∀ {vs : List V} {rs : List Rz} {B : Addr → Prop}, RRh K G H σ ρ B vs rs → vs.length = rs.length
  | _, _, _, .nil => rfl
  | _, _, _, .cons _ t => congrArg (· + 1) t.length
theorem Pn.setAll {S0 : L2.St} : ∀ {is : List Nat} {vs : List V} {σ : L2.St}, Pn T S0 σ → is.all (fun i => !T i) = true → Pn T S0 (setAll is vs σ)
  | [], _, _, P, _ => P
  | _ :: _, [], _, P, _ => P
  | i :: is, v :: vs, σ, P, h => by
    rw [List.all_cons, Bool.and_eq_true] at h
    exact Pn.setAll (is := is) (vs := vs) (P.set (by simpa using h.1)) h.2
theorem ws_puts2 {i j : Nat} {ta : TA} {wa : Wa} (hi : [i, j].all (fun i => !T i) = true) (h : WAh K ta wa) : WSs K T (tPar i j ta) (wPuts [i, j] wa) := fun B G H σ S0 ρ O D R P q kn kr kb kc =>
  h B G H σ ρ _ _ R q fun vs G1 H1 ρ1 rs S1 R1 rr q1 => by
    obtain ⟨ρ2, e, q1⟩ := ok_some q1
    have R2 := rep_puts R1 rr e
    have hl := rr.length.trans (puts_len e)
    match vs, hl, R2 with
    | [v, w], _, R2 => exact ⟨v, w, rfl, kn G1 H1 _ ρ2 S1 R2 (P.setAll (vs := [v, w]) hi) q1⟩
theorem ws_puts3 {i j l : Nat} {ta : TA} {wa : Wa} (hi : [i, j, l].all (fun i => !T i) = true) (h : WAh K ta wa) : WSs K T (tPar3 i j l ta) (wPuts [i, j, l] wa) := fun B G H σ S0 ρ O D R P q kn kr kb kc =>
  h B G H σ ρ _ _ R q fun vs G1 H1 ρ1 rs S1 R1 rr q1 => by
    obtain ⟨ρ2, e, q1⟩ := ok_some q1
    have R2 := rep_puts R1 rr e
    have hl := rr.length.trans (puts_len e)
    match vs, hl, R2 with
    | [v, w, u], _, R2 => exact ⟨v, w, u, rfl, kn G1 H1 _ ρ2 S1 R2 (P.setAll (vs := [v, w, u]) hi) q1⟩
theorem ds_puts2 {i j : Nat} {x y : Str} {a b : Expr} {ta : TA} {wa : Wa} {px py pt : Pos} {kt k2 pt2} (hT : [i, j].all (fun i => !T i) = true) (hc : X.calm = true) (hN : X.N.Nodup) (hi : X.N[i]? = some x) (hj : X.N[j]? = some y) (hij : i ≠ j)
    (hx : X.env.scope.names.lookup x = some .local) (hy : X.env.scope.names.lookup y = some .local) (ha : DAh X [a, b] ta wa)
    (hw : swappedStores [.Tuple [.Name x px, .Name y py] kt pt] (.Tuple [a, b] k2 pt2) X.env = pure (some [x, y]))
    (hs : swapsWithSole [.Tuple [.Name x px, .Name y py] kt pt] (.Tuple [a, b] k2 pt2) pos.line X.env = pure false := by rfl) :
    DS X T (.Assign [.Tuple [.Name x px, .Name y py] kt pt] (.Tuple [a, b] k2 pt2) pos) (tPar i j ta) (wPuts [i, j] wa) := ⟨ps_par hc hN hi hj hij hx hy ha.pa hw hs, ws_puts2 hT ha.wa⟩
theorem ds_puts3 {i j l : Nat} {x y z : Str} {a b c : Expr} {ta : TA} {wa : Wa} {px py pz pt : Pos} {kt k2 pt2} (hT : [i, j, l].all (fun i => !T i) = true) (hc : X.calm = true) (hN : X.N.Nodup) (hi : X.N[i]? = some x) (hj : X.N[j]? = some y) (hl : X.N[l]? = some z) (hij : i ≠ j) (hil : i ≠ l) (hjl : j ≠ l)
    (hx : X.env.scope.names.lookup x = some .local) (hy : X.env.scope.names.lookup y = some .local) (hz : X.env.scope.names.lookup z = some .local) (ha : DAh X [a, b, c] ta wa)
    (hw : swappedStores [.Tuple [.Name x px, .Name y py, .Name z pz] kt pt] (.Tuple [a, b, c] k2 pt2) X.env = pure (some [x, y, z]))
    (hs : swapsWithSole [.Tuple [.Name x px, .Name y py, .Name z pz] kt pt] (.Tuple [a, b, c] k2 pt2) pos.line X.env = pure false := by rfl) :
    DS X T (.Assign [.Tuple [.Name x px, .Name y py, .Name z pz] kt pt] (.Tuple [a, b, c] k2 pt2) pos) (tPar3 i j l ta) (wPuts [i, j, l] wa) := ⟨ps_par3 hc hN hi hj hl hij hil hjl hx hy hz ha.pa hw hs, ws_puts3 hT ha.wa⟩
end
end DL

set_option Elab.async false
set_option linter.all false
set_option maxRecDepth 100000
set_option maxHeartbeats 2000000
namespace DL
open PySem L2
/-- what an iterator yields, in every later state -/
def ItOk (K : KT) (G0 : Hp) (J : It) (ds : List PD) : Prop := ∀ (B : Addr → Prop) (σ : L2.St) (ρ : Sl) (G H : Hp), Ex G0 G → Rep K B G H σ ρ → (∀ i, ds.length ≤ i → J.stop i H) ∧
  ∀ i d, ds[i]? = some d → J.go i H ∧ ∀ x H', J.yld i H x H' → ∃ G', Stp B G H G' H' ∧ Rep K B G' H' σ ρ ∧ Rp K G' x d
abbrev Wi := Sl → (List PD → Sl → Prop) → Prop
def WIi (K : KT) (wi : TI) (w : Wi) : Prop := ∀ (B : Addr → Prop) (G H : Hp) (σ : L2.St) (ρ : Sl) (Q : List PD → Sl → Prop) (QJ : It → Hp → Prop), Rep K B G H σ ρ → w ρ Q →
  (∀ J G' H' ρ' ds, Stp B G H G' H' → Rep K B G' H' σ ρ' → ItOk K G' J ds → Q ds ρ' → QJ J H') → wi σ H QJ
structure DI (X : CxT) (tg it : Expr) (wi : TI) (w : Wi) : Prop where
  pi : PI X tg it wi
  wi : WIi X.K wi w
section
variable {X : CxT} {K : KT} {T : Nat → Bool} {e tg : Expr} {es : List Expr} {te : TE} {t : TA} {we : We} {wr : Wa} {pos : Pos}
/-! ### over a list or a tuple -/
def iSeq (K : PySem.W.Frag) (tl : TE) : TI := fun σ H R => tl σ H fun x H1 => ∃ a, x = .ref a ∧ (((∃ xs, SqL K H1 a xs) ∧ R (Itl K a) H1) ∨ ((∃ xs, SqT K H1 a xs) ∧ R (Itt K a) H1))
theorem pi_seq {l : Expr} {tl : TE} (hl : PE X l tl) : PI X tg l (iSeq X.K tl) := by
  refine ⟨fun pins s σ H R I h => ?_⟩
  refine thn (hl.run pins s σ H _ I h) fun v s1 ⟨x, H1, I1, r1, q1⟩ => ?_
  obtain ⟨a, e, q⟩ := q1
  subst e
  cases r1
  rcases q with ⟨⟨xs, hq⟩, q⟩ | ⟨⟨xs, hq⟩, q⟩
  · obtain ⟨its, rv, p, hz⟩ := I1.list hq
    refine wpAny_pyIter_list p.isList ?_
    refine ⟨s1.heap.objs.size, [s1.heap.objs.size], _, _, H1, rfl, I1.kept (t' := s1.toks) fun b o e => Heap.get?_push_of_some _ e, turn_list a _, ⟨_, Heap.get?_push_size _ rfl, rfl, rfl⟩, fun b hb => ?_, q⟩
    have e : b = s1.heap.objs.size := by simpa using hb
    subst e
    exact I1.fpOk (Nat.le_refl _) (I1.hok.fresh (Nat.le_refl _))
  · obtain ⟨its, rv, p, hz⟩ := I1.tuple hq
    refine wpAny_pyIter_tuple (show s1.heap.IsTuple a its.toArray from p) ?_
    refine ⟨s1.heap.objs.size, [s1.heap.objs.size], _, _, H1, rfl, I1.kept (t' := s1.toks) fun b o e => Heap.get?_push_of_some _ e, turn_tuple a _, ⟨_, Heap.get?_push_size _ rfl, rfl, rfl⟩, fun b hb => ?_, q⟩
    have e : b = s1.heap.objs.size := by simpa using hb
    subst e
    exact I1.fpOk (Nat.le_refl _) (I1.hok.fresh (Nat.le_refl _))
def items (d : PD) : Option (List PD) := match d with
  | .lst xs => some xs
  | .tup xs => some xs
  | .scr ns => some (ns.map .int)
  | _ => none
def wSeqI (we : We) : Wi := fun ρ Q => we ρ fun r ρ1 => warm r ρ1 ∧ frz [r.cool] ρ1 fun ds ρ2 => match ds with
  | [d] => ok (items d) fun xs => Q xs ρ2
  | _ => False
theorem it_list {G0 : Hp} {a : Addr} {vs : List V} {ds : List PD} (hG : ∀ G H, Ex G0 G → Ex G H → SqL K H a vs) (r : RpAll K G0 vs ds) : ItOk K G0 (Itl K a) ds := fun B σ ρ G H e R => by
  have hq := hG G H e R.gh
  refine ⟨fun i hi => ⟨vs, hq, by rw [r.length]; exact hi⟩, fun i d hd => ?_⟩
  obtain ⟨v, hv, rv⟩ := r.get hd
  refine ⟨⟨vs, v, hq, hv⟩, fun x H' ⟨eH, hx⟩ => ?_⟩
  subst eH
  have := hx vs hq
  rw [hv] at this; cases this
  exact ⟨G, .refl, R, rv.mono e⟩
theorem it_tup {G0 : Hp} {a : Addr} {vs : List V} {ds : List PD} (hG : ∀ G H, Ex G0 G → Ex G H → SqT K H a vs) (r : RpAll K G0 vs ds) : ItOk K G0 (Itt K a) ds := fun B σ ρ G H e R => by
  have hq := hG G H e R.gh
  refine ⟨fun i hi => ⟨vs, hq, by rw [r.length]; exact hi⟩, fun i d hd => ?_⟩
  obtain ⟨v, hv, rv⟩ := r.get hd
  refine ⟨⟨vs, v, hq, hv⟩, fun x H' ⟨eH, hx⟩ => ?_⟩
  subst eH
  have := hx vs hq
  rw [hv] at this; cases this
  exact ⟨G, .refl, R, rv.mono e⟩
theorem wi_seq (h : WE K te we) : WIi K (iSeq K te) (wSeqI we) := fun B G H σ ρ Q QJ R q k =>
  h B G H σ ρ _ _ R q fun v G1 H1 ρ1 r S1 R1 rr ⟨c1, q1⟩ => by
    obtain ⟨G1', S1', R1', rr1', cc, ec⟩ := rr.cool R1 c1
    obtain ⟨⟨ds, ρ2⟩, e, q1⟩ := ok_some q1
    obtain ⟨G2, S2, R2, ra⟩ := frz_all R1' (.cons rr1' cc .nil) e
    match ds, ra, q1 with
    | [d], ra, q1 =>
      obtain ⟨w, ew, rw'⟩ := ra.one
      cases ew
      obtain ⟨xs, ex, q1⟩ := ok_some q1
      have S := (S1.trans S1').trans S2
      cases rw' with
      | lst hg r => cases ex; exact ⟨_, rfl, .inl ⟨⟨_, SqL.of (R2.gh _ _ hg nt_lst)⟩, k _ G2 H1 ρ2 _ S R2 (it_list (fun G' H' e e' => SqL.of (e' _ _ (e _ _ hg nt_lst) nt_lst)) r) q1⟩⟩
      | tup hg r => cases ex; exact ⟨_, rfl, .inr ⟨⟨_, ex_t R2.gh hg⟩, k _ G2 H1 ρ2 _ S R2 (it_tup (fun G' H' e e' => ex_t e' (ex_t e hg)) r) q1⟩⟩
      | scr hg => cases ex; exact ⟨_, rfl, .inl ⟨⟨_, ex_l R2.gh hg⟩, k _ G2 H1 ρ2 _ S R2 (it_list (fun G' H' e e' => ex_l e' (ex_l e hg)) (rp_ints _)) q1⟩⟩
      | _ => cases ex
theorem di_seq {l : Expr} (h : DE X l te we) : DI X tg l (iSeq X.K te) (wSeqI we) := ⟨pi_seq h.pe, wi_seq h.we⟩
/-! ### over a range -/
def rgP (lo : Int) (n : Nat) : List PD := (List.range n).map fun i => PD.int (lo + (i : Nat))
theorem it_range {G0 : Hp} {lo : Int} {n : Nat} : ItOk K G0 (Itr lo n) (rgP lo n) := fun B σ ρ G H e R => by
  have hl : (rgP lo n).length = n := by unfold rgP; rw [List.length_map, List.length_range]
  refine ⟨fun i hi => by rw [hl] at hi; exact hi, fun i d hd => ?_⟩
  unfold rgP at hd
  rw [List.getElem?_map] at hd
  have hi : i < n := by
    refine Classical.byContradiction fun z => ?_
    rw [List.getElem?_eq_none (by rw [List.length_range]; omega)] at hd
    cases hd
  rw [List.getElem?_range hi] at hd
  cases hd
  exact ⟨hi, fun x H' ⟨e1, e2⟩ => by subst e1; subst e2; exact ⟨G, .refl, R, .int _⟩⟩
def wRng1 (wa : Wa) : Wi := fun ρ Q => wa ρ fun rs ρ1 => match rs with
  | [.dat (.int j)] => (-(2 ^ 62) ≤ j ∧ j < 2 ^ 62) ∧ Q (rgP 0 j.toNat) ρ1
  | _ => False
theorem RRs.int1 {B : Addr → Prop} {G H : Hp} {σ : L2.St} {ρ : Sl} {vs : List V} {j : Int} (h : RRs K B G H σ ρ vs [.dat (.int j)]) : vs = [.int j] := by
  cases h with | cons h c t => cases t; cases h with | dat q => cases q; rfl
theorem RRs.int2 {B : Addr → Prop} {G H : Hp} {σ : L2.St} {ρ : Sl} {vs : List V} {i j : Int} (h : RRs K B G H σ ρ vs [.dat (.int i), .dat (.int j)]) : vs = [.int i, .int j] := by
  cases h with
  | cons h c t => cases h with | dat q => cases q; rw [t.int1]
theorem wi_rng1 (h : WAa K t wr) : WIi K (iRng1 t) (wRng1 wr) := fun B G H σ ρ Q QJ R q k =>
  h B G H σ ρ _ _ R q fun vs G1 H1 ρ1 rs S1 R1 rr q1 => by
    match rs, rr, q1 with
    | [.dat (.int j)], rr, ⟨⟨b1, b2⟩, q1⟩ => exact ⟨j, rr.int1, b1, b2, k _ G1 H1 ρ1 _ S1 R1 it_range q1⟩
def wRng2 (wa : Wa) : Wi := fun ρ Q => wa ρ fun rs ρ1 => match rs with
  | [.dat (.int i), .dat (.int j)] => (-(2 ^ 62) ≤ i ∧ i < 2 ^ 62 ∧ -(2 ^ 62) ≤ j ∧ j < 2 ^ 62) ∧ Q (rgP i (j - i).toNat) ρ1
  | _ => False
theorem wi_rng2 (h : WAa K t wr) : WIi K (iRng2 t) (wRng2 wr) := fun B G H σ ρ Q QJ R q k =>
  h B G H σ ρ _ _ R q fun vs G1 H1 ρ1 rs S1 R1 rr q1 => by
    match rs, rr, q1 with
    | [.dat (.int i), .dat (.int j)], rr, ⟨b, q1⟩ => exact ⟨i, j, rr.int2, b, k _ G1 H1 ρ1 _ S1 R1 it_range q1⟩
variable {a b : Expr} {p : Pos}
theorem di_rng1 (hg : Gl X "range") (hm : X.mg "range" = none) (ha : DA X [a] t wr) (hs : starEach [a] X.env = [(false, eval a X.env)] := by rfl) : DI X tg (.Call (.Name "range" p) [a] [] pos) (iRng1 t) (wRng1 wr) := ⟨pi_range1 hg hm ha.pa hs, wi_rng1 ha.wa⟩
theorem di_rng2 (hg : Gl X "range") (hm : X.mg "range" = none) (ha : DA X [a, b] t wr) (hs : starEach [a, b] X.env = [(false, eval a X.env), (false, eval b X.env)] := by rfl) (hs2 : starEach [b] X.env = [(false, eval b X.env)] := by rfl) : DI X tg (.Call (.Name "range" p) [a, b] [] pos) (iRng2 t) (wRng2 wr) := ⟨pi_range2 hg hm ha.pa hs hs2, wi_rng2 ha.wa⟩
/-! ### for -/
def forL (wg : Wg) (wb : Ws) : List PD → On → Sl → Prop
  | [], O, ρ => O.nx ρ
  | d :: ds, O, ρ => wg d ρ fun ρ' => wb { nx := forL wg wb ds O, rt := O.rt, bk := O.nx, ct := forL wg wb ds O } ρ'
def wFor (wi : Wi) (wg : Wg) (wb : Ws) : Ws := fun O ρ => wi ρ fun ds ρ1 => forL wg wb ds O ρ1
theorem ws_for {wi : TI} {wI : Wi} {g : TG} {wg : Wg} {tb : TS} {wb : Ws} (hi : WIi K wi wI) (hg : WGg K T g wg) (hb : WSs K T tb wb) : WSs K T (tFor wi g tb) (wFor wI wg wb) := fun B G H σ S0 ρ O D R P q kn kr kb kc =>
  hi B G H σ ρ _ _ R q fun J G1 H1 ρ1 ds S1 R1 it q1 => by
    refine ⟨fun i m σ' H' => m = ds.length - i ∧ i ≤ ds.length ∧ ∃ G' ρ', Stp B G H G' H' ∧ Ex G1 G' ∧ Rep K B G' H' σ' ρ' ∧ Pn T S0 σ' ∧ forL wg wb (ds.drop i) O ρ', ⟨_, rfl, Nat.zero_le _, G1, ρ1, S1, Ex.refl _, R1, P, q1⟩, ?_⟩
    rintro i m σ' H' ⟨rfl, hi, G', ρ', S', e', R', P', q'⟩
    obtain ⟨hstop, hgo⟩ := it B σ' ρ' G' H' e' R'
    by_cases hlt : i < ds.length
    · have hd : ds[i]? = some ds[i] := List.getElem?_eq_getElem hlt
      obtain ⟨go, yl⟩ := hgo i _ hd
      refine .inr ⟨go, fun σ2 H2 => ∃ G2 ρ2, Stp B G H G2 H2 ∧ Ex G1 G2 ∧ Rep K B G2 H2 σ2 ρ2 ∧ Pn T S0 σ2 ∧ forL wg wb (ds.drop (i + 1)) O ρ2, fun σ2 H2 h2 => ⟨_, by omega, rfl, hlt, h2⟩, fun x H2 hy => ?_⟩
      obtain ⟨G2, S2, R2, rx⟩ := yl x H2 hy
      rw [List.drop_eq_getElem_cons hlt] at q'
      have SS := S'.trans S2
      have ee := e'.trans S2.g
      exact hg B G2 H2 σ' S0 ρ' x _ _ _ R2 P' rx q' fun σ3 ρ3 R3 P3 q3 =>
        hb B G2 H2 σ3 S0 ρ3 _ _ R3 P3 q3 (fun G4 H4 σ4 ρ4 S4 R4 P4 q4 => ⟨G4, ρ4, SS.trans S4, ee.trans S4.g, R4, P4, q4⟩) (fun G4 H4 σ4 ρ4 v r S4 => kr G4 H4 σ4 ρ4 v r (SS.trans S4)) (fun G4 H4 σ4 ρ4 S4 => kn G4 H4 σ4 ρ4 (SS.trans S4)) (fun G4 H4 σ4 ρ4 S4 R4 P4 q4 => ⟨G4, ρ4, SS.trans S4, ee.trans S4.g, R4, P4, q4⟩)
    · have e : i = ds.length := by omega
      subst e
      rw [List.drop_length] at q'
      exact .inl ⟨hstop _ (Nat.le_refl _), kn G' H' σ' ρ' S' R' P' q'⟩
theorem ds_for {iter : Expr} {body : List Stmt} {wi : TI} {wI : Wi} {g : TG} {wg : Wg} {tb : TS} {wb : Ws} (hp : PassesOwn (model X.prog X.w) X.A X.env X.xe) (hc : X.calm = true) (hi : DI X tg iter wi wI) (hg : DG X T tg g wg) (hb : DSs X T body tb wb)
    (hs : ∀ x, foldedSetIterable iter X.env x = pure x := by intro _; rfl) : DS X T (.For tg iter body [] pos) (tFor wi g tb) (wFor wI wg wb) := ⟨ps_for hp hc hi.pi hg.pg hb.pss hs, ws_for hi.wi hg.wg hb.ws⟩
/-! ### while: by a number of turns -/
def whileN (wc : Wt) (wb : Ws) : Nat → On → Sl → Prop
  | 0, _, _ => False
  | n + 1, O, ρ => wc ρ fun b ρ1 => match b with
    | true => wb { nx := whileN wc wb n O, rt := O.rt, bk := O.nx, ct := whileN wc wb n O } ρ1
    | false => O.nx ρ1
def wWhile (wc : Wt) (wb : Ws) : Ws := fun O ρ => ∃ n, whileN wc wb n O ρ
theorem ws_while {tc : TT} {wc : Wt} {tb : TS} {wb : Ws} (hc : WTt K tc wc) (hb : WSs K T tb wb) : WSs K T (tWhile tc tb) (wWhile wc wb) := fun B G H σ S0 ρ O D R P q kn kr kb kc => by
  obtain ⟨n, q⟩ := q
  refine ⟨fun m σ' H' => ∃ G' ρ', Stp B G H G' H' ∧ Rep K B G' H' σ' ρ' ∧ Pn T S0 σ' ∧ whileN wc wb m O ρ', ⟨n, G, ρ, .refl, R, P, q⟩, ?_⟩
  rintro m σ' H' ⟨G', ρ', S', R', P', q'⟩
  cases m with
  | zero => exact q'.elim
  | succ m =>
    refine hc B G' H' σ' ρ' _ (fun b H1 => if b = true then _ else _) R' q' fun b G1 H1 ρ1 S1 R1 q1 => ?_
    have SS := S'.trans S1
    cases b with
    | true =>
      rw [if_pos rfl]
      exact ⟨fun σ2 H2 => ∃ G2 ρ2, Stp B G H G2 H2 ∧ Rep K B G2 H2 σ2 ρ2 ∧ Pn T S0 σ2 ∧ whileN wc wb m O ρ2, fun σ2 H2 h2 => ⟨m, Nat.lt_succ_self m, h2⟩,
        hb B G1 H1 σ' S0 ρ1 _ _ R1 P' q1 (fun G4 H4 σ4 ρ4 S4 R4 P4 q4 => ⟨G4, ρ4, SS.trans S4, R4, P4, q4⟩) (fun G4 H4 σ4 ρ4 v r S4 => kr G4 H4 σ4 ρ4 v r (SS.trans S4)) (fun G4 H4 σ4 ρ4 S4 => kn G4 H4 σ4 ρ4 (SS.trans S4)) (fun G4 H4 σ4 ρ4 S4 R4 P4 q4 => ⟨G4, ρ4, SS.trans S4, R4, P4, q4⟩)⟩
    | false =>
      rw [if_neg Bool.false_ne_true]
      exact kn G1 H1 σ' ρ1 SS R1 P' q1
theorem ds_while {c : Expr} {body : List Stmt} {tc : TT} {wc : Wt} {tb : TS} {wb : Ws} (hp : PassesOwn (model X.prog X.w) X.A X.env X.xe) (hc : DT X c tc wc) (hb : DSs X T body tb wb) : DS X T (.While c body [] pos) (tWhile tc tb) (wWhile wc wb) := ⟨ps_while hp hc.pt hb.pss, ws_while hc.wt hb.ws⟩
end
end DL

set_option Elab.async false
set_option linter.all false
set_option maxRecDepth 100000
set_option maxHeartbeats 2000000
namespace DL
open PySem L2
section
variable {X : CxT} {K : KT} {e tg : Expr} {es : List Expr} {te : TE} {we : We} {pos : Pos}
/-! ### list comprehensions -/
def wipeS (ρ : Sl) : List Nat → Sl
  | [] => ρ
  | v :: vs => (wipeS ρ vs).set v .emp
theorem Rep.forget {B : Addr → Prop} {G H : Hp} {σ : L2.St} {ρ : Sl} (R : Rep K B G H σ ρ) (i : Nat) : Rep K B G H (σ.set i none) (ρ.set i .emp) := by
  have get : ∀ (j : Nat) (s : SD), (ρ.set i .emp)[j]? = some s → s ≠ .emp → ρ[j]? = some s ∧ (σ.set i none)[j]? = σ[j]? := fun j s h hs => by
    by_cases z : j = i
    · subst z
      by_cases hl : j < ρ.length
      · rw [List.getElem?_set_self hl] at h; cases h; exact absurd rfl hs
      · rw [List.getElem?_eq_none (by rw [List.length_set]; omega)] at h; cases h
    · rw [List.getElem?_set_ne (Ne.symm z)] at h; exact ⟨h, List.getElem?_set_ne (Ne.symm z)⟩
  refine ⟨R.gh, R.tb, R.z, R.bh, by rw [List.length_set, List.length_set]; exact R.len, fun j d h => ?_, fun j o h => ?_, fun j k o u p x y z w => ?_⟩
  · obtain ⟨a, b⟩ := get j _ h (by intro z; cases z)
    rw [b]; exact R.dat j d a
  · obtain ⟨a, b⟩ := get j _ h (by intro z; cases z)
    rw [b]; exact R.own j o a
  · obtain ⟨a, b⟩ := get j _ x (by intro z; cases z)
    obtain ⟨c, d⟩ := get k _ y (by intro z; cases z)
    rw [b] at z; rw [d] at w
    exact R.sep j k o u p a c z w
theorem Rep.wipe {B : Addr → Prop} {G H : Hp} {σ : L2.St} {ρ : Sl} (R : Rep K B G H σ ρ) : ∀ vs : List Nat, Rep K B G H (L2.wipe σ vs) (wipeS ρ vs)
  | [] => R
  | v :: vs => (Rep.wipe R vs).forget v
/-- the slots of the comprehension's own names get back what they held -/
def restore (ρ0 : Sl) : List Nat → Sl → Sl
  | [], ρ => ρ
  | v :: vs, ρ => restore ρ0 vs (ρ.set v (ρ0.getD v .emp))
def noOwn (ρ0 : Sl) (vs : List Nat) : Bool := vs.all fun v => match ρ0[v]? with
  | some (.own _) => false
  | _ => true
theorem Rep.restore {B B0 : Addr → Prop} {G G0 H0 H : Hp} {σ : L2.St} {ρ0 : Sl} (R0 : Rep K B0 G0 H0 σ ρ0) (e : Ex G0 G) : ∀ {vs : List Nat} {ρ : Sl}, vs.Nodup → noOwn ρ0 vs = true → Rep K B G H (L2.wipe σ vs) ρ → Rep K B G H σ (DL.restore ρ0 vs ρ)
  | [], ρ, _, _, R => R
  | v :: vs, ρ, nd, no, R => by
    have nd' := List.nodup_cons.mp nd
    have no' := Bool.and_eq_true_iff.mp (show ((match ρ0[v]? with | some (.own _) => false | _ => true) && noOwn ρ0 vs) = true from no)
    show Rep K B G H σ (DL.restore ρ0 vs (ρ.set v (ρ0.getD v .emp)))
    refine Rep.restore (vs := vs) R0 e nd'.2 no'.2 ?_
    have R : Rep K B G H ((L2.wipe σ vs).set v none) ρ := R
    have hv : ∀ x, σ[v]? = some (some x) → (L2.wipe σ vs)[v]? = some (some x) := fun x hx => by
      have wk : ∀ (ws : List Nat), v ∉ ws → (L2.wipe σ ws)[v]? = σ[v]? := by
        intro ws
        induction ws with
        | nil => intro _; rfl
        | cons w ws ih =>
          intro hm
          rw [List.mem_cons, not_or] at hm
          show ((L2.wipe σ ws).set w none)[v]? = _
          rw [List.getElem?_set_ne (Ne.symm hm.1)]
          exact ih hm.2
      rw [wk vs nd'.1, hx]
    have other : ∀ j, j ≠ v → ((L2.wipe σ vs).set v none)[j]? = (L2.wipe σ vs)[j]? := fun j hj => List.getElem?_set_ne (Ne.symm hj)
    have lenW : (L2.wipe σ vs).length = ρ.length := by rw [← R.len, List.length_set]
    -- what the slot v holds again
    cases hs : ρ0.getD v SD.emp with
    | own o =>
      exfalso
      rw [List.getD_eq_getElem?_getD] at hs
      cases h0 : ρ0[v]? with
      | none => rw [h0] at hs; cases hs
      | some s => rw [h0] at hs; have hs : s = SD.own o := hs; subst hs; have := no'.1; rw [h0] at this; cases this
    | emp =>
      have get : ∀ (j : Nat) (s : SD), (ρ.set v SD.emp)[j]? = some s → s ≠ .emp → j ≠ v ∧ ρ[j]? = some s := fun j s h hne => by
        by_cases z : j = v
        · subst z
          by_cases hl : j < ρ.length
          · rw [List.getElem?_set_self hl] at h; cases h; exact absurd rfl hne
          · rw [List.getElem?_eq_none (by rw [List.length_set]; omega)] at h; cases h
        · rw [List.getElem?_set_ne (Ne.symm z)] at h; exact ⟨z, h⟩
      refine ⟨R.gh, R.tb, R.z, R.bh, by rw [List.length_set]; exact lenW, fun j d h => ?_, fun j o h => ?_, fun j k o u p x y z w => ?_⟩
      · obtain ⟨a, b⟩ := get j _ h (by intro z; cases z)
        rw [← other j a]; exact R.dat j d b
      · obtain ⟨a, b⟩ := get j _ h (by intro z; cases z)
        rw [← other j a]; exact R.own j o b
      · obtain ⟨a, b⟩ := get j _ x (by intro z; cases z)
        obtain ⟨c, d⟩ := get k _ y (by intro z; cases z)
        rw [← other j a] at z; rw [← other k c] at w
        exact R.sep j k o u p b d z w
    | dat d =>
      obtain ⟨x, hx, rx⟩ : ∃ x, σ[v]? = some (some x) ∧ Rp K G0 x d := by
        rw [List.getD_eq_getElem?_getD] at hs
        cases h0 : ρ0[v]? with
        | none => rw [h0] at hs; cases hs
        | some s => rw [h0] at hs; have hs : s = SD.dat d := hs; subst hs; exact R0.dat v d h0
      have st := (R.store (i := v) (v := x) (s := .dat d) (fun d' z => by cases z; exact rx.mono e) (fun o z => by cases z))
      have : (((L2.wipe σ vs).set v none).set v (some x)) = L2.wipe σ vs := by
        apply List.ext_getElem?
        intro m
        by_cases hm : m = v
        · subst hm
          have := hv x hx
          rw [List.getElem?_set_self (by rw [List.length_set]; exact (List.getElem?_eq_some_iff.mp this).1), this]
        · rw [List.getElem?_set_ne (Ne.symm hm), List.getElem?_set_ne (Ne.symm hm)]
      rw [this] at st
      exact st
/-- a target stores only to these slots -/
def GOnly (vs : List Nat) (g : TG) : Prop := ∀ (v : V) (σ : L2.St) (H : Hp) (Q Q' : L2.St → Hp → Prop), (∀ σ' H', L2.wipe σ' vs = L2.wipe σ vs → Q σ' H' → Q' σ' H') → g v σ H Q → g v σ H Q'
def GsOnly (vs : List Nat) (g : TGs) : Prop := ∀ (xs : List V) (σ : L2.St) (H : Hp) (Q Q' : L2.St → Hp → Prop), (∀ σ' H', L2.wipe σ' vs = L2.wipe σ vs → Q σ' H' → Q' σ' H') → g xs σ H Q → g xs σ H Q'
theorem wipe_get {σ : L2.St} {j : Nat} : ∀ {vs : List Nat}, j ∉ vs → (L2.wipe σ vs)[j]? = σ[j]?
  | [], _ => rfl
  | v :: vs, h => by
    rw [List.mem_cons, not_or] at h
    show ((L2.wipe σ vs).set v none)[j]? = _
    rw [List.getElem?_set_ne (Ne.symm h.1)]
    exact wipe_get h.2
theorem wipe_in {σ : L2.St} {j : Nat} : ∀ {vs : List Nat}, j ∈ vs → (L2.wipe σ vs)[j]? = if j < σ.length then some none else none
  | v :: vs, h => by
    show ((L2.wipe σ vs).set v none)[j]? = _
    by_cases z : v = j
    · subst z
      by_cases hl : v < σ.length
      · rw [if_pos hl, List.getElem?_set_self (by rw [L2.wipe_length]; exact hl)]
      · rw [if_neg hl, List.getElem?_eq_none (by rw [List.length_set, L2.wipe_length]; omega)]
    · rw [List.getElem?_set_ne z]
      exact wipe_in ((List.mem_cons.mp h).resolve_left fun e => z e.symm)
theorem wipe_set {σ : L2.St} {i : Nat} {x : Option V} {vs : List Nat} (h : i ∈ vs) : L2.wipe (σ.set i x) vs = L2.wipe σ vs := by
  apply List.ext_getElem?
  intro j
  by_cases hj : j ∈ vs
  · rw [wipe_in hj, wipe_in hj, List.length_set]
  · rw [wipe_get hj, wipe_get hj, List.getElem?_set_ne (fun z => hj (by rw [← z]; exact h))]
theorem wipe_wipe {σ : L2.St} {vs : List Nat} : L2.wipe (L2.wipe σ vs) vs = L2.wipe σ vs := by
  apply List.ext_getElem?
  intro j
  by_cases hj : j ∈ vs
  · rw [wipe_in hj, wipe_in hj, L2.wipe_length]
  · rw [wipe_get hj]
theorem go_name {vs : List Nat} {i : Nat} (h : i ∈ vs) : GOnly vs (gName i) := fun v σ H Q Q' k q => k _ _ (wipe_set h) q
theorem gos_nil {vs : List Nat} : GsOnly vs gNil := fun xs σ H Q Q' k q => ⟨q.1, k _ _ rfl q.2⟩
theorem gos_cons {vs : List Nat} {g : TG} {u : TGs} (h : GOnly vs g) (h' : GsOnly vs u) : GsOnly vs (gCons g u) := fun xs σ H Q Q' k ⟨v, r, e, q⟩ =>
  ⟨v, r, e, h v σ H _ _ (fun σ1 H1 w1 q1 => h' r σ1 H1 _ _ (fun σ2 H2 w2 q2 => k σ2 H2 (w2.trans w1) q2) q1) q⟩
theorem go_tup {vs : List Nat} {n : Nat} {u : TGs} (h : GsOnly vs u) : GOnly vs (gTup K n u) := fun v σ H Q Q' k ⟨a, xs, e, hs, hl, q⟩ => ⟨a, xs, e, hs, hl, h xs σ H _ _ k q⟩
/-- a change at an address that is nobody's -/
theorem Rep.aside {B : Addr → Prop} {G H : Hp} {σ : L2.St} {ρ : Sl} {p : Addr} {o : HO} (R : Rep K B G H σ ρ) (hp : H p = none ∨ ∃ vs, H p = some (.lst vs)) (hg : G p = none) (hb : ¬ B p) (hs : ∀ (i : Nat) (u : OD), ρ[i]? = some (SD.own u) → σ[i]? ≠ some (some (V.ref p))) : Rep K B G (upd H p o) σ ρ := by
  refine ⟨R.gh.right hg, by
    rcases hp with hp | ⟨vs, hp⟩
    · exact R.tb.new hp
    · exact R.tb.put hp nt_lst (fun _ _ z => by unfold LamX.CodeO at z; cases z), R.z.step ⟨Ex.refl G, fun _ _ h => h, fun _ _ h => h, fun a u ha h _ => by rw [upd_ne (nb_ne hb ha)]; exact h, fun _ _ _ _ _ => rfl⟩, fun a ha => ?_, R.len, R.dat, fun i u hi => ?_, R.sep⟩
  · exact (R.bh a ha).upd (nb_ne hb ha)
  · obtain ⟨q, hq, h1, h2, h3, h4, h5⟩ := R.own i u hi
    have ne : q ≠ p := fun z => hs i u hi (by rw [h1, z])
    exact ⟨q, hq, h1, by rw [upd_ne ne]; exact h2, h3, h4, h5⟩
def compL (vs : List Nat) (wg : Wg) (wt : Wt) (we : We) : List PD → List PD → (List PD → Sl → Prop) → Sl → Prop
  | [], acc, Q, ρ => Q acc ρ
  | d :: ds, acc, Q, ρ => wg d ρ fun ρ1 => wt ρ1 fun b ρ2 => match b with
    | true => we ρ2 fun r ρ3 => warm r ρ3 ∧ frz [r.cool] ρ3 fun es ρ4 => match es with
      | [y] => acc.length < sizeLine ∧ compL vs wg wt we ds (acc ++ [y]) Q (wipeS ρ4 vs)
      | _ => False
    | false => compL vs wg wt we ds acc Q (wipeS ρ2 vs)
def wLc (vs : List Nat) (wi : Wi) (wg : Wg) (wt : Wt) (we : We) : We := fun ρ Q => wi ρ fun ds ρ1 => noOwn ρ1 vs = true ∧ compL vs wg wt we ds [] (fun acc ρ2 => Q (.own (.lst acc)) (restore ρ1 vs ρ2)) (wipeS ρ1 vs)
def T0 : Nat → Bool := fun _ => false
theorem pn0 {S0 σ : L2.St} : Pn T0 S0 σ := fun _ h => by cases h
theorem we_lc {vs : List Nat} {wi : TI} {wI : Wi} {g : TG} {wg : Wg} {tt : TT} {wt : Wt} (hv : vs.Nodup) (hi : WIi K wi wI) (hg : WGg K T0 g wg) (ho : GOnly vs g) (ht : WTt K tt wt) (he : WE K te we) : WE K (tLc wi g tt te vs) (wLc vs wI wg wt we) := fun B G H σ ρ Q QV R q k =>
  hi B G H σ ρ _ _ R q fun J G1 H1 ρ1 ds S1 R1 it ⟨no, q1⟩ => by
    intro D hD
    have gD : G1 D = none := R1.gh.free R1.tb hD
    have nB : ¬ B D := fun z => (R1.bh D z).no hD
    have nS : ∀ (i : Nat) (u : OD), ρ1[i]? = some (SD.own u) → σ[i]? ≠ some (some (V.ref D)) := fun i u hi hz => by
      obtain ⟨q, hq, h1, h2, _⟩ := R1.own i u hi
      rw [hz] at h1; cases h1; rw [hD] at h2; cases h2
    have R1' : Rep K B G1 (upd H1 D (.lst [])) σ ρ1 := R1.aside (.inl hD) gD nB nS
    -- what stands between two turns
    let Inv : List PD → Nat → Hp → Prop := fun acc i H' => ∃ G' ρ' vals, Stp B G H G' H' ∧ Ex G1 G' ∧ Rep K B G' H' (L2.wipe σ vs) ρ' ∧ H' D = some (.lst vals) ∧ G' D = none ∧ RpAll K G' vals acc ∧
      (∀ (i : Nat) (u : OD), ρ'[i]? = some (SD.own u) → (L2.wipe σ vs)[i]? ≠ some (some (V.ref D))) ∧ compL vs wg wt we (ds.drop i) acc (fun acc ρ2 => Q (.own (.lst acc)) (restore ρ1 vs ρ2)) ρ'
    refine ⟨fun i m H' => m = ds.length - i ∧ i ≤ ds.length ∧ ∃ acc, Inv acc i H', ⟨_, rfl, Nat.zero_le _, [], G1, wipeS ρ1 vs, [], S1.trans ⟨Ex.refl _, fun _ _ h => h, fun _ _ h => h, fun a o hb h _ => by rw [upd_ne (nb_ne nB hb)]; exact h, fun _ _ _ _ _ => rfl⟩, Ex.refl _, R1'.wipe vs, upd_same, gD, .nil, fun i u hi hz => ?_, q1⟩, ?_⟩
    · obtain ⟨q, hq, h1, h2, h3, h4, h5⟩ := (R1'.wipe vs).own i u hi
      obtain ⟨q', hq', g1, g2, _⟩ := (R1.wipe vs).own i u hi
      rw [hz] at h1 g1; cases h1; cases g1
      rw [hD] at g2; cases g2
    rintro i m H' ⟨rfl, hi, acc, G', ρ', vals, S', e', R', hDv, gD', ra, nS', q'⟩
    obtain ⟨hstop, hgo⟩ := it B (L2.wipe σ vs) ρ' G' H' e' R'
    by_cases hlt : i < ds.length
    · have hd : ds[i]? = some ds[i] := List.getElem?_eq_getElem hlt
      obtain ⟨go, _⟩ := hgo i _ hd
      refine .inr ⟨go, fun H2 => ∃ acc, Inv acc (i + 1) H2, fun H2 h2 => ⟨_, by omega, rfl, hlt, h2⟩, fun x H2 hy => ?_⟩
      rw [List.drop_eq_getElem_cons hlt] at q'
      -- D is kept while the turn goes
      let B' : Addr → Prop := fun a => B a ∨ a = D
      have RB : Rep K B' G' H' (L2.wipe σ vs) ρ' := by
        refine ⟨R'.gh, R'.tb, R'.z.more fun _ z => .inl z, fun a ha => ?_, R'.len, R'.dat, fun j u hj => ?_, R'.sep⟩
        · rcases ha with ha | rfl
          · exact R'.bh a ha
          · exact ⟨_, hDv, nt_lst⟩
        · obtain ⟨q, hq, h1, h2, h3, h4, h5⟩ := R'.own j u hj
          exact ⟨q, hq, h1, h2, h3, fun z => z.elim h4 fun z => nS' j u hj (by rw [h1, z]), h5⟩
      obtain ⟨_, hgoB⟩ := it B' (L2.wipe σ vs) ρ' G' H' e' RB
      obtain ⟨G2, S2, R2, rx⟩ := (hgoB i _ hd).2 x H2 hy
      have q2 : g x (L2.wipe σ vs) H2 fun σ2 H3 => H3 = H2 ∧ ∃ ρ2, Rep K B' G2 H2 σ2 ρ2 ∧ wt ρ2 fun b ρ2 => match b with
        | true => we ρ2 fun r ρ3 => warm r ρ3 ∧ frz [r.cool] ρ3 fun es ρ4 => match es with
          | [y] => acc.length < sizeLine ∧ compL vs wg wt we (ds.drop (i + 1)) (acc ++ [y]) (fun acc ρ2 => Q (.own (.lst acc)) (DL.restore ρ1 vs ρ2)) (wipeS ρ4 vs)
          | _ => False
        | false => compL vs wg wt we (ds.drop (i + 1)) acc (fun acc ρ2 => Q (.own (.lst acc)) (DL.restore ρ1 vs ρ2)) (wipeS ρ2 vs) :=
        hg B' G2 H2 (L2.wipe σ vs) [] ρ' x _ _ _ R2 pn0 rx q' fun σ' ρ2 R3 _ q3 => ⟨rfl, ρ2, R3, q3⟩
      refine ho x (L2.wipe σ vs) H2 _ _ (fun σ2 H3 w2 q3 => ?_) q2
      have w3 : L2.wipe σ2 vs = L2.wipe σ vs := w2.trans wipe_wipe
      obtain ⟨rfl, ρ2, R3, q3⟩ := q3
      refine ⟨w3, ht B' G2 H3 σ2 ρ2 _ _ R3 q3 fun b G4 H4 ρ4 S4 R4 q4 => ?_⟩
      have SB := S2.trans S4
      cases b with
      | false =>
        rw [if_neg Bool.false_ne_true]
        have RW := R4.wipe vs
        rw [w3] at RW
        exact ⟨acc, G4, _, vals, S'.trans (SB.weak fun _ z => .inl z), e'.trans SB.g, RW.weak R'.z.b fun _ z => .inl z, SB.h _ _ (.inr rfl) hDv nt_lst, (SB.n _ _ (.inr rfl) hDv trivial).trans gD', ra.mono SB.g, fun j u hj hz => by
          obtain ⟨q, hq, h1, _, _, h4, _⟩ := RW.own j u hj
          rw [hz] at h1; cases h1; exact h4 (.inr rfl), q4⟩
      | true =>
        rw [if_pos rfl]
        refine he B' G4 H4 σ2 ρ4 _ _ R4 q4 fun y G5 H5 ρ5 r S5 R5 rr ⟨c5, q5⟩ => ?_
        obtain ⟨G5', S5', R5', rr5', cc, ec⟩ := rr.cool R5 c5
        obtain ⟨⟨es', ρ6⟩, ee, q5⟩ := ok_some q5
        obtain ⟨G6, S6, R6, r6⟩ := frz_all R5' (.cons rr5' cc .nil) ee
        have SC := ((SB.trans S5).trans S5').trans S6
        have hD5 : H5 D = some (.lst vals) := SC.h _ _ (.inr rfl) hDv nt_lst
        have gD6 : G6 D = none := (SC.n _ _ (.inr rfl) hDv trivial).trans gD'
        match es', r6, q5 with
        | [yd], r6, ⟨hz, q5⟩ =>
          have RW := R6.wipe vs
          rw [w3] at RW
          have nSW : ∀ (j : Nat) (u : OD), (wipeS ρ6 vs)[j]? = some (SD.own u) → (L2.wipe σ vs)[j]? ≠ some (some (V.ref D)) := fun j u hj hz => by
            obtain ⟨q, hq, h1, _, _, h4, _⟩ := RW.own j u hj
            rw [hz] at h1; cases h1; exact h4 (.inr rfl)
          obtain ⟨yv, eyv, ryv⟩ := r6.one
          cases eyv
          refine ⟨vals, hD5, by rw [ra.length]; exact hz, acc ++ [yd], G6, _, vals ++ [y], (S'.trans (SC.weak fun _ z => .inl z)).trans ⟨Ex.refl _, fun _ _ h => h, fun _ _ h => h, fun a o hb h _ => by rw [upd_ne (nb_ne nB hb)]; exact h, fun _ _ _ _ _ => rfl⟩, e'.trans SC.g, (RW.weak R'.z.b fun _ z => .inl z).aside (.inr ⟨_, hD5⟩) gD6 nB nSW, upd_same, gD6, (ra.mono SC.g).append (.cons ryv .nil), nSW, q5⟩
    · have e : i = ds.length := by omega
      subst e
      rw [List.drop_length] at q'
      refine .inl ⟨hstop _ (Nat.le_refl _), ?_⟩
      have RB : Rep K (fun a => B a ∨ a = D) G' H' (L2.wipe σ vs) ρ' := by
        refine ⟨R'.gh, R'.tb, R'.z.more fun _ z => .inl z, fun a ha => ?_, R'.len, R'.dat, fun j u hj => ?_, R'.sep⟩
        · rcases ha with ha | rfl
          · exact R'.bh a ha
          · exact ⟨_, hDv, nt_lst⟩
        · obtain ⟨q, hq, h1, h2, h3, h4, h5⟩ := R'.own j u hj
          exact ⟨q, hq, h1, h2, h3, fun z => z.elim h4 fun z => nS' j u hj (by rw [h1, z]), h5⟩
      have RF := Rep.restore R1 e' hv no RB
      refine k _ G' H' _ _ S' (RF.weak R'.z.b fun _ z => .inl z) (.own hDv gD' nB (.lst ra) fun j u hj hz => ?_) q'
      obtain ⟨q, hq, h1, _, _, h4, _⟩ := RF.own j u hj
      rw [hz] at h1; cases h1; exact h4 (.inr rfl)
/-- [e for x in xs if t] -/
theorem de_lc {elt iter : Expr} {ifs : List Expr} {scope : Scope} {own : List (Str × Nat)} {wi : TI} {wI : Wi} {g : TG} {wg : Wg} {tt : TT} {wt : Wt} (hc : X.calm = true) (hN : X.N.Nodup) (hv : (own.map (·.2)).Nodup) (hi : DI X tg iter wi wI) (okb : BlkOk X.N X.env.scope scope own)
    (hg : ∀ (s : Shared) (H : Hp) (C : Addr) (cl : List (Str × Addr)) (fp : List Addr), DG (X.blk s H scope (compEnvC scope cl C X.env) fp) T0 tg g wg) (ho : GOnly (own.map (·.2)) g)
    (ht : ∀ (s : Shared) (H : Hp) (C : Addr) (cl : List (Str × Addr)) (fp : List Addr), PTs (X.blk s H scope (compEnvC scope cl C X.env) fp) ifs tt) (hw : WTt X.K tt wt)
    (he : ∀ (s : Shared) (H : Hp) (C : Addr) (cl : List (Str × Addr)) (fp : List Addr), DE (X.blk s H scope (compEnvC scope cl C X.env) fp) elt te we) (hs : ∀ x, foldedSetIterable iter X.env x = pure x := by intro _; rfl) :
    DE X (.ListComp elt [⟨tg, iter, ifs, 0⟩] scope pos) (tLc wi g tt te (own.map (·.2))) (wLc (own.map (·.2)) wI wg wt we) :=
  ⟨pe_lc hc hN hi.pi okb (fun s H C cl fp => (hg s H C cl fp).pg) ht (fun s H C cl fp => (he s H C cl fp).pe) hs, we_lc hv hi.wi (hg X.s_0 X.H_0 0 [] []).wg ho hw (he X.s_0 X.H_0 0 [] []).we⟩
def wYes : Wt := fun ρ Q => Q true ρ
theorem wt_yes : WTt K tYes wYes := fun B G H σ ρ Q QV R q k => k true G H ρ .refl R q
end
end DL

set_option Elab.async false
set_option linter.all false
set_option maxRecDepth 100000
set_option maxHeartbeats 2000000
namespace DL
open PySem L2
/-! ### defs -/
/-- no slot's thing -/
def Rz.free : Rz → Bool
  | .bor _ => false
  | _ => true
/-- what a def makes of its arguments: what it asks, what it gives, what becomes of the things lent to it; what is wanted of an exception -/
abbrev Fd := Sl → (Rz → Sl → Prop) → Xp → Prop
structure FnG (P : Program) (w : World) (KF : PySem.W.Frag) (Ts : List (Addr × Str)) (mg : Str → Option Value) (base : Heap) (k : Nat) (f : Addr) (fd : FuncData) (ps : List Str) (F : Fd) : Prop where
  run : ∀ (A : Around) (outer : List PySem.Env) (s : Shared) (H : Hp) (args : Args) (us : List Value) (vs : List V) (B : Addr → Prop) (G : Hp) (as : Sl) (Q : Rz → Sl → Prop) (Ξ : Xp) (QV : VK) (E : XK), Room k A → A.guards = some [] →
    Env0 P w KF mg base A outer s H → BindsTo s fd args (ps.zip us) → Vals vs us → vs.length = ps.length → Rep ⟨KF, Ts, B, G, H⟩ B G H (vs.map some) as → F as Q Ξ →
    (∀ v G' H' as' r, Stp B G H G' H' → Rep ⟨KF, Ts, B, G, H⟩ B G' H' (vs.map some) as' → RR ⟨KF, Ts, B, G, H⟩ B G' H' (vs.map some) as' v r → r.free = true → Q r as' → QV v H') →
    Lk KF B G H Ξ (fun cls d _ H' => E cls d H') →
    codeAny (model P w) A (.call (.ref f) args) (CR (L2.CX P w) outer P w H s QV E) s
theorem FnG.mono {P : Program} {w : World} {KF : PySem.W.Frag} {Ts : List (Addr × Str)} {mg : Str → Option Value} {base : Heap} {j k : Nat} {f : Addr} {fd : FuncData} {ps : List Str} {F : Fd} (h : FnG P w KF Ts mg base j f fd ps F) (hk : j ≤ k) : FnG P w KF Ts mg base k f fd ps F :=
  ⟨fun A outer s H args us vs B G as Q Ξ QV E hr => h.run A outer s H args us vs B G as Q Ξ QV E (hr.mono hk)⟩
/-- the context of a def's body -/
abbrev cxT (P : Program) (w : World) (KF : PySem.W.Frag) (Ts : List (Addr × Str)) (mg : Str → Option Value) (base : Heap) (N : List Str) (qual : Str) (scope : Scope) (f : Addr) (cdv : Value) (A : Around) (outer : List PySem.Env) (s : Shared) (H : Hp) (E : XK) (B : Addr → Prop) (G : Hp) (Ξ : Xp) (lk : Lk KF B G H Ξ (fun cls d _ H' => E cls d H')) : CxT :=
  ⟨cxOf (L2.CX P w) P w KF mg base N qual scope f cdv A outer s H E, Ts, B, G, H, Ξ, fun cls d _ H' => E cls d H', PassesOwn.leaving, takes_of rfl rfl rfl rfl, lk⟩
/-- what a body's end makes of the slots -/
def fin (T : Nat → Bool) (as ρ : Sl) : Sl := as.mapIdx fun i a => if T i then ρ.getD i .emp else a
def pinned (T : Nat → Bool) (as : Sl) : Prop := ∀ i o, as[i]? = some (SD.own o) → T i = true
/-- a result that leaves: a slot's own thing goes with it -/
def leave (T : Nat → Bool) (m : Nat) (r : Rz) (ρ : Sl) (Q : Rz → Sl → Prop) : Prop := match r with
  | .dat d => Q (.dat d) ρ
  | .own o => Q (.own o) ρ
  | .bor i => match ρ[i]? with
    | some (.dat d) => Q (.dat d) ρ
    | some (.own o) => (i < m → T i = false) ∧ Q (.own o) (ρ.set i .emp)
    | _ => False
def mkF (T : Nat → Bool) (n : Nat) (w : Xp → Ws) : Fd := fun as Q Ξ => pinned T as ∧ w Ξ { nx := fun ρ => Q (.dat .non) (fin T as ρ), rt := fun r ρ => leave T as.length r ρ fun r ρ => Q r (fin T as ρ) } (as ++ List.replicate (n - as.length) .emp)
section
variable {P : Program} {w : World} {K : KT} {mg : Str → Option Value} {base : Heap}
theorem rep_start {B : Addr → Prop} {G H : Hp} {vs : List V} {as : Sl} {N : List Str} (R : Rep K B G H (vs.map some) as) (hl : vs.length ≤ N.length) : Rep K B G H (L2.start N vs) (as ++ List.replicate (N.length - as.length) .emp) := by
  have hlen : as.length = vs.length := by have := R.len; rw [List.length_map] at this; exact this.symm
  have get : ∀ (i : Nat) (s : SD), (as ++ List.replicate (N.length - as.length) SD.emp)[i]? = some s → s ≠ .emp → i < as.length ∧ as[i]? = some s := fun i s h hne => by
    by_cases hi : i < as.length
    · rw [List.getElem?_append_left hi] at h; exact ⟨hi, h⟩
    · rw [List.getElem?_append_right (by omega)] at h
      have := List.eq_of_mem_replicate (List.mem_of_getElem? h)
      exact absurd this hne
  have gs : ∀ i, i < as.length → (L2.start N vs)[i]? = (vs.map some)[i]? := fun i hi => by
    unfold L2.start
    exact List.getElem?_append_left (by rw [List.length_map]; omega)
  refine ⟨R.gh, R.tb, R.z, R.bh, ?_, fun i d h => ?_, fun i o h => ?_, fun i j o u p x y z t => ?_⟩
  · unfold L2.start
    rw [List.length_append, List.length_append, List.length_map, List.length_replicate, List.length_replicate, hlen]
  · obtain ⟨a, b⟩ := get i _ h (by intro z; cases z)
    rw [gs i a]; exact R.dat i d b
  · obtain ⟨a, b⟩ := get i _ h (by intro z; cases z)
    rw [gs i a]; exact R.own i o b
  · obtain ⟨a, b⟩ := get i _ x (by intro z; cases z)
    obtain ⟨c, d⟩ := get j _ y (by intro z; cases z)
    rw [gs i a] at z; rw [gs j c] at t
    exact R.sep i j o u p b d z t
/-- back at the caller: the arguments' slots -/
theorem rep_fin {T : Nat → Bool} {B : Addr → Prop} {G0 H0 G H : Hp} {vs : List V} {as ρ : Sl} {σ : L2.St} {N : List Str} (R0 : Rep K B G0 H0 (vs.map some) as) (hp : pinned T as) (hl : vs.length ≤ N.length) (R : Rep K B G H σ ρ) (e : Ex G0 G) (P : Pn T (L2.start N vs) σ) :
    Rep K B G H (vs.map some) (fin T as ρ) := by
  have hlen : as.length = vs.length := by have := R0.len; rw [List.length_map] at this; exact this.symm
  have gs : ∀ i, i < as.length → T i = true → σ[i]? = (vs.map some)[i]? := fun i hi hT => by
    rw [P i hT]
    unfold L2.start
    exact List.getElem?_append_left (by rw [List.length_map]; omega)
  have get : ∀ (i : Nat) (s : SD), (fin T as ρ)[i]? = some s → i < as.length ∧ ((T i = true ∧ s = ρ.getD i .emp) ∨ (T i = false ∧ as[i]? = some s)) := fun i s h => by
    unfold fin at h
    rw [List.getElem?_mapIdx] at h
    cases ha : as[i]? with
    | none => rw [ha] at h; cases h
    | some a =>
      rw [ha] at h
      refine ⟨(List.getElem?_eq_some_iff.mp ha).1, ?_⟩
      cases hT : T i with
      | true => simp only [hT, Option.map_some, if_true] at h; cases h; exact .inl ⟨rfl, rfl⟩
      | false => simp only [hT, Option.map_some] at h; cases h; exact .inr ⟨rfl, rfl⟩
  have gd : ∀ (i : Nat) (s : SD), s ≠ .emp → s = ρ.getD i .emp → ρ[i]? = some s := fun i s hne h => by
    rw [List.getD_eq_getElem?_getD] at h
    cases hr : ρ[i]? with
    | none => rw [hr] at h; exact absurd h hne
    | some x => rw [hr] at h; rw [h]; rfl
  refine ⟨R.gh, R.tb, R.z, R.bh, by unfold fin; rw [List.length_map, List.length_mapIdx, hlen], fun i d h => ?_, fun i o h => ?_, fun i j o u p x y z t => ?_⟩
  · obtain ⟨hi, ⟨hT, hs⟩ | ⟨hT, hs⟩⟩ := get i _ h
    · rw [← gs i hi hT]; exact R.dat i d (gd i _ (by intro z; cases z) hs)
    · obtain ⟨v, h1, h2⟩ := R0.dat i d hs
      exact ⟨v, h1, h2.mono e⟩
  · obtain ⟨hi, ⟨hT, hs⟩ | ⟨hT, hs⟩⟩ := get i _ h
    · rw [← gs i hi hT]; exact R.own i o (gd i _ (by intro z; cases z) hs)
    · exact absurd (hp i o hs) (by rw [hT]; intro z; cases z)
  · obtain ⟨hi, ⟨hT, hs⟩ | ⟨hT, hs⟩⟩ := get i _ x
    · obtain ⟨hj, ⟨hT', hs'⟩ | ⟨hT', hs'⟩⟩ := get j _ y
      · rw [← gs i hi hT] at z; rw [← gs j hj hT'] at t
        exact R.sep i j o u p (gd i _ (by intro z; cases z) hs) (gd j _ (by intro z; cases z) hs') z t
      · exact absurd (hp j u hs') (by rw [hT']; intro z; cases z)
    · exact absurd (hp i o hs) (by rw [hT]; intro z; cases z)
theorem fng_of {KF : PySem.W.Frag} {Ts : List (Addr × Str)} {x qual : Str} {st : Stmt} {f : Addr} {oc kV doc pm cdv ct : Value} {od an : Option Addr} {osl : Array (Option Value)} {N ps : List Str} {k : Nat} {T : Nat → Bool} {wb : Xp → Ws}
    (lk : KF.lookup f = some ⟨oc, od, .func (PySem.W.fnOf x qual (defArgs st) (defBody st) (defScope st) .none kV doc pm an cdv ct), osl⟩) (hcd : PySem.W.codeIn KF cdv qual = true) (S : FnScope N ps (defScope st))
    (hbody : ∀ (A : Around) (outer : List PySem.Env) (s : Shared) (H : Hp) (E : XK) (B : Addr → Prop) (G : Hp) (Ξ : Xp) (lk : Lk KF B G H Ξ (fun cls d _ H' => E cls d H')), Room k (A.deeper (PyProof.Rows.envOfC qual (defScope st) s.heap.objs.size f cdv)) → (A.deeper (PyProof.Rows.envOfC qual (defScope st) s.heap.objs.size f cdv)).guards = some [] →
      ∃ t, DSs (cxT P w KF Ts mg base N qual (defScope st) f cdv A outer s H E B G Ξ lk) T (defBody st) t (wb Ξ)) : FnG P w KF Ts mg base (k + 1) f (PySem.W.fnOf x qual (defArgs st) (defBody st) (defScope st) .none kV doc pm an cdv ct) ps (mkF T N.length wb) := by
  refine ⟨fun A outer s H args us vs B G as Q Ξ QV E hr hg e0 hb r hl R ⟨hp, hw⟩ hk hx => ?_⟩
  have hN : vs.length ≤ N.length := by
    rw [hl]
    have := congrArg List.length S.pre
    rw [List.length_take] at this
    omega
  have hlen : as.length = vs.length := by have := R.len; rw [List.length_map] at this; exact this.symm
  refine LamX.run_ofS lk hcd S hr e0 hb r hl fun hr' => ?_
  obtain ⟨t, ht⟩ := hbody A outer s H E B G Ξ hx hr' hg
  refine ⟨t, ht.pss, ht.ws B G H _ (L2.start N vs) _ _ _ (rep_start R hN) (fun _ _ => rfl) hw (fun G' H' σ' ρ' S' R' P' q => ?_) (fun G' H' σ' ρ' v r S' R' P' rr q => ?_) (fun _ _ _ _ _ _ _ q => q.elim) (fun _ _ _ _ _ _ _ q => q.elim)⟩
  · exact hk .non G' H' _ _ S' (rep_fin R hp hN R' S'.g P') (.dat .non) rfl q
  · have RF := rep_fin R hp hN R' S'.g P'
    have owned : ∀ (p : Addr) (ρ2 : Sl), Rep ⟨KF, Ts, B, G, H⟩ B G' H' σ' ρ2 → (∀ (i : Nat) (u : OD), ρ2[i]? = some (SD.own u) → σ'[i]? ≠ some (some (V.ref p))) → ∀ (i : Nat) (u : OD), (fin T as ρ2)[i]? = some (SD.own u) → (vs.map some)[i]? ≠ some (some (V.ref p)) := fun p ρ2 R2 hno i u hi hz => by
      unfold fin at hi
      rw [List.getElem?_mapIdx] at hi
      cases ha : as[i]? with
      | none => rw [ha] at hi; cases hi
      | some a =>
        rw [ha] at hi
        have hil := (List.getElem?_eq_some_iff.mp ha).1
        cases hT : T i with
        | true =>
          simp only [hT, Option.map_some, if_true] at hi
          have hi : ρ2.getD i .emp = SD.own u := Option.some.inj hi
          rw [List.getD_eq_getElem?_getD] at hi
          cases hr : ρ2[i]? with
          | none => rw [hr] at hi; cases hi
          | some y =>
            rw [hr] at hi
            have hi : y = SD.own u := hi
            subst hi
            refine hno i u hr ?_
            rw [P' i hT]
            unfold L2.start
            rw [List.getElem?_append_left (by rw [List.length_map]; omega)]
            exact hz
        | false =>
          simp only [hT, Option.map_some] at hi
          have hi : a = SD.own u := Option.some.inj hi
          subst hi
          have := hp i u ha
          rw [hT] at this; cases this
    cases rr with
    | dat z => exact hk v G' H' _ _ S' RF (.dat z) rfl q
    | own h1 h2 h3 h4 h5 => exact hk _ G' H' _ _ S' RF (.own h1 h2 h3 h4 (owned _ ρ' R' h5)) rfl q
    | bor hz =>
      rename_i i
      have q : match ρ'[i]? with | some (.dat d) => Q (.dat d) (fin T as ρ') | some (.own o) => (i < as.length → T i = false) ∧ Q (.own o) (fin T as (ρ'.set i .emp)) | _ => False := by
        unfold leave at q
        cases hi : ρ'[i]? with
        | none => simp only [hi] at q
        | some s => cases s <;> first | (simp only [hi] at q; done) | (simp only [hi] at q ⊢; exact q)
      cases hi : ρ'[i]? with
      | none => rw [hi] at q; exact q.elim
      | some s =>
        cases s with
        | emp => rw [hi] at q; exact q.elim
        | dat d =>
          rw [hi] at q
          obtain ⟨w1, w2, w3⟩ := R'.dat _ _ hi
          rw [hz] at w2; cases w2
          exact hk _ G' H' _ _ S' RF (.dat w3) rfl q
        | own o =>
          rw [hi] at q
          obtain ⟨p, ho, w2, h1, h2, h3, h4⟩ := R'.own _ _ hi
          rw [hz] at w2; cases w2
          have RE := R'.emp i
          have no : ∀ (j : Nat) (u : OD), (ρ'.set i SD.emp)[j]? = some (SD.own u) → σ'[j]? ≠ some (some (V.ref p)) := fun j u hj hq => by
            by_cases z : j = i
            · subst z; rw [List.getElem?_set_self (List.getElem?_eq_some_iff.mp hi).1] at hj; cases hj
            · rw [List.getElem?_set_ne (Ne.symm z)] at hj
              exact z (R'.sep j i u o p hj hi hq hz)
          exact hk _ G' H' _ _ S' (rep_fin R hp hN RE S'.g P') (.own h1 h2 h3 h4 (owned p _ RE no)) rfl q.2
end
end DL

set_option Elab.async false
set_option linter.all false
set_option maxRecDepth 100000
set_option maxHeartbeats 2000000
namespace DL
open PySem L2
/-! ### calls of defs -/
def isBor (i : Nat) (r : Rz) : Bool := match r with
  | .bor j => decide (j = i)
  | _ => false
def argOf (ρ : Sl) (r : Rz) : SD := match r with
  | .dat d => .dat d
  | .own _ => .emp
  | .bor i => ρ.getD i .emp
def backS (ρ : Sl) (rs : List Rz) (as : Sl) : Sl := ρ.mapIdx fun i s => match s with
  | .own o => match rs.findIdx? (isBor i) with
    | some k => as.getD k .emp
    | none => .own o
  | s => s
def newBor (r : Rz) (rs : List Rz) : Bool := match r with
  | .bor i => !rs.any (isBor i)
  | _ => true
def onceB : List Rz → Bool
  | [] => true
  | r :: rs => newBor r rs && onceB rs
theorem once_of : ∀ {rs : List Rz} {k l i : Nat}, onceB rs = true → rs[k]? = some (Rz.bor i) → rs[l]? = some (Rz.bor i) → k = l
  | [], k, l, i, _, h, _ => by simp at h
  | r :: rs, k, l, i, h, h1, h2 => by
    have hh : newBor r rs = true ∧ onceB rs = true := Bool.and_eq_true_iff.mp h
    have no : ∀ m, rs[m]? = some (Rz.bor i) → r ≠ .bor i := fun m hm hr => by
      subst hr
      have h0 : (!rs.any (isBor i)) = true := hh.1
      have h3 : rs.any (isBor i) = true := List.any_eq_true.mpr ⟨_, List.mem_of_getElem? hm, by unfold isBor; simp⟩
      rw [h3] at h0; cases h0
    cases k with
    | zero =>
      cases l with
      | zero => rfl
      | succ l =>
        simp only [List.getElem?_cons_zero, List.getElem?_cons_succ] at h1 h2
        exact absurd (Option.some.inj h1) (no l h2)
    | succ k =>
      cases l with
      | zero =>
        simp only [List.getElem?_cons_zero, List.getElem?_cons_succ] at h1 h2
        exact absurd (Option.some.inj h2) (no k h1)
      | succ l =>
        simp only [List.getElem?_cons_succ] at h1 h2
        rw [once_of hh.2 h1 h2]
section
variable {X : CxT} {K : KT} {e : Expr} {es : List Expr} {t : TA} {wa : Wa} {F : Fd} {x : Str} {p pos : Pos}
def SpG (KF : PySem.W.Frag) (Ts : List (Addr × Str)) (n : Nat) (F : Fd) (vs : List V) (H : Hp) (QV : VK) (E : XK) : Prop := ∃ (B : Addr → Prop) (G : Hp) (as : Sl) (Q : Rz → Sl → Prop) (Ξ : Xp), vs.length = n ∧ Rep ⟨KF, Ts, B, G, H⟩ B G H (vs.map some) as ∧ F as Q Ξ ∧
  (∀ v G' H' as' r, Stp B G H G' H' → Rep ⟨KF, Ts, B, G, H⟩ B G' H' (vs.map some) as' → RR ⟨KF, Ts, B, G, H⟩ B G' H' (vs.map some) as' v r → r.free = true → Q r as' → QV v H') ∧ Lk KF B G H Ξ (fun cls d _ H' => E cls d H')
def tCallG (KF : PySem.W.Frag) (Ts : List (Addr × Str)) (n : Nat) (F : Fd) (W : WX) (t : TA) : TE := fun σ H Q => t σ H fun vs H1 => SpG KF Ts n F vs H1 Q (fun cls d H' => W cls d σ H')
def wCall (n : Nat) (F : Fd) (Ξ : Xp) (wa : Wa) : We := fun ρ Q => wa ρ fun rs ρ1 => rs.length = n ∧ onceB rs = true ∧ F (rs.map (argOf ρ1)) (fun r as => Q r (backS ρ1 rs as)) Ξ
theorem rrs_get {B : Addr → Prop} {G H : Hp} {σ : L2.St} {ρ : Sl} : ∀ {vs : List V} {rs : List Rz} {k : Nat} {r : Rz}, RRs K B G H σ ρ vs rs → rs[k]? = some r → ∃ v, vs[k]? = some v ∧ RR K B G H σ ρ v r ∧ r.cold = true
  | _, _, _, _, .nil, h => by simp at h
  | _, _, 0, r, .cons h c t, e => by simp at e; subst e; exact ⟨_, rfl, h, c⟩
  | _, _, k + 1, r, .cons h c t, e => by
    obtain ⟨v, a, b⟩ := rrs_get (k := k) (r := r) t (by simpa using e)
    exact ⟨v, by simpa using a, b⟩
theorem rrs_len {B : Addr → Prop} {G H : Hp} {σ : L2.St} {ρ : Sl} : ∀ {vs : List V} {rs : List Rz}, RRs K B G H σ ρ vs rs → vs.length = rs.length
  | _, _, .nil => rfl
  | _, _, .cons _ _ t => congrArg (· + 1) (rrs_len t)
/-- at a call: the arguments as the callee's slots; what is not lent is not to be changed -/
theorem call_in {B : Addr → Prop} {G H : Hp} {σ : L2.St} {ρ : Sl} {vs : List V} {rs : List Rz} (R : Rep K B G H σ ρ) (rr : RRs K B G H σ ρ vs rs) (ho : onceB rs = true) :
    Rep (K.at (fun a => Tr H a ∧ ∀ (i : Nat) (o : OD), Rz.bor i ∈ rs → ρ[i]? = some (SD.own o) → σ[i]? ≠ some (some (V.ref a))) G H) (fun a => Tr H a ∧ ∀ (i : Nat) (o : OD), Rz.bor i ∈ rs → ρ[i]? = some (SD.own o) → σ[i]? ≠ some (some (V.ref a))) G H (vs.map some) (rs.map (argOf ρ)) := by
  have get : ∀ (k : Nat) (s : SD), (rs.map (argOf ρ))[k]? = some s → ∃ r v, rs[k]? = some r ∧ vs[k]? = some v ∧ RR K B G H σ ρ v r ∧ r.cold = true ∧ argOf ρ r = s ∧ (vs.map some)[k]? = some (some v) := fun k s h => by
    rw [List.getElem?_map] at h
    cases hr : rs[k]? with
    | none => rw [hr] at h; cases h
    | some r =>
      rw [hr] at h
      obtain ⟨v, hv, h1, h2⟩ := rrs_get rr hr
      exact ⟨r, v, rfl, hv, h1, h2, Option.some.inj h, by rw [List.getElem?_map, hv]; rfl⟩
  refine ⟨R.gh, R.tb, R.z.new, fun a h => h.1, by rw [List.length_map, List.length_map]; exact rrs_len rr, fun k d h => ?_, fun k o h => ?_, fun k l o u q hk hl hz hw => ?_⟩
  · obtain ⟨r, v, h1, h2, h3, h4, h5, h6⟩ := get k _ h
    refine ⟨v, h6, ?_⟩
    cases h3 with
    | dat z => cases h5; exact z
    | own => cases h4
    | bor hz =>
      rename_i i
      have h5 : ρ.getD i .emp = SD.dat d := h5
      rw [List.getD_eq_getElem?_getD] at h5
      cases hi : ρ[i]? with
      | none => rw [hi] at h5; cases h5
      | some s =>
        rw [hi] at h5
        have h5 : s = SD.dat d := h5
        subst h5
        obtain ⟨w, w1, w2⟩ := R.dat _ _ hi
        rw [hz] at w1; cases w1
        exact w2
  · obtain ⟨r, v, h1, h2, h3, h4, h5, h6⟩ := get k _ h
    cases h3 with
    | dat z => cases h5
    | own => cases h4
    | bor hz =>
      rename_i i
      have h5 : ρ.getD i .emp = SD.own o := h5
      rw [List.getD_eq_getElem?_getD] at h5
      cases hi : ρ[i]? with
      | none => rw [hi] at h5; cases h5
      | some s =>
        rw [hi] at h5
        have h5 : s = SD.own o := h5
        subst h5
        obtain ⟨q, ho', w1, w2, w3, w4, w5⟩ := R.own _ _ hi
        rw [hz] at w1; cases w1
        exact ⟨q, ho', h6, w2, w3, fun z => z.2 i o (List.mem_of_getElem? h1) hi hz, w5⟩
  · have own : ∀ (k : Nat) (o : OD), (rs.map (argOf ρ))[k]? = some (SD.own o) → (vs.map some)[k]? = some (some (V.ref q)) → ∃ i, rs[k]? = some (Rz.bor i) ∧ ρ[i]? = some (SD.own o) ∧ σ[i]? = some (some (V.ref q)) := fun k o h hz => by
      obtain ⟨r, v, h1, h2, h3, h4, h5, h6⟩ := get k _ h
      rw [h6] at hz; cases hz
      cases h3 with
      | dat z => cases h5
      | own => cases h4
      | bor hz =>
        rename_i i
        have h5 : ρ.getD i .emp = SD.own o := h5
        rw [List.getD_eq_getElem?_getD] at h5
        cases hi : ρ[i]? with
        | none => rw [hi] at h5; cases h5
        | some s =>
          rw [hi] at h5
          have h5 : s = SD.own o := h5
          subst h5
          exact ⟨i, h1, hi, hz⟩
    obtain ⟨i, a1, a2, a3⟩ := own k o hk hz
    obtain ⟨j, b1, b2, b3⟩ := own l u hl hw
    have := R.sep i j o u q a2 b2 a3 b3
    subst this
    exact once_of ho a1 b1
theorem find_bor {rs : List Rz} {i k : Nat} (h : rs.findIdx? (isBor i) = some k) : rs[k]? = some (Rz.bor i) := by
  obtain ⟨hl, hb, _⟩ := List.findIdx?_eq_some_iff_getElem.mp h
  rw [List.getElem?_eq_getElem hl]
  cases hr : rs[k] with
  | bor j =>
    rw [hr] at hb
    have : j = i := of_decide_eq_true hb
    rw [this]
  | dat d => rw [hr] at hb; cases hb
  | own o => rw [hr] at hb; cases hb
theorem find_none {rs : List Rz} {i : Nat} (h : rs.findIdx? (isBor i) = none) : Rz.bor i ∉ rs := fun hm => by
  have := List.findIdx?_eq_none_iff.mp h _ hm
  unfold isBor at this
  simp at this
/-- behind a call -/
theorem call_out {B1 : Addr → Prop} {G1 H1 : Hp} {B : Addr → Prop} {G H G' H' : Hp} {σ : L2.St} {ρ as : Sl} {vs : List V} {rs : List Rz} {v : V} {r : Rz} (R : Rep K B G H σ ρ) (rr : RRs K B G H σ ρ vs rs) 
    (S : Stp (fun a => Tr H a ∧ ∀ (i : Nat) (o : OD), Rz.bor i ∈ rs → ρ[i]? = some (SD.own o) → σ[i]? ≠ some (some (V.ref a))) G H G' H')
    (RA : Rep (K.at B1 G1 H1) (fun a => Tr H a ∧ ∀ (i : Nat) (o : OD), Rz.bor i ∈ rs → ρ[i]? = some (SD.own o) → σ[i]? ≠ some (some (V.ref a))) G' H' (vs.map some) as)
    (rv : RR (K.at B1 G1 H1) (fun a => Tr H a ∧ ∀ (i : Nat) (o : OD), Rz.bor i ∈ rs → ρ[i]? = some (SD.own o) → σ[i]? ≠ some (some (V.ref a))) G' H' (vs.map some) as v r) (hf : r.free = true) :
    Stp B G H G' H' ∧ Rep K B G' H' σ (backS ρ rs as) ∧ RR K B G' H' σ (backS ρ rs as) v r := by
  have BB : ∀ a, B a → Tr H a ∧ ∀ (i : Nat) (o : OD), Rz.bor i ∈ rs → ρ[i]? = some (SD.own o) → σ[i]? ≠ some (some (V.ref a)) := fun a hb => ⟨R.bh a hb, fun i o _ hi hz => by
    obtain ⟨q, ho, h1, h2, h3, h4, h5⟩ := R.own i o hi
    rw [hz] at h1; cases h1; exact h4 hb⟩
  -- what a slot holds behind the call
  have get : ∀ (i : Nat) (s : SD), (backS ρ rs as)[i]? = some s → (ρ[i]? = some s ∧ (∀ o, s = .own o → rs.findIdx? (isBor i) = none)) ∨ (∃ o k, ρ[i]? = some (SD.own o) ∧ rs[k]? = some (Rz.bor i) ∧ s = as.getD k .emp) := fun i s h => by
    unfold backS at h
    rw [List.getElem?_mapIdx] at h
    cases hi : ρ[i]? with
    | none => rw [hi] at h; cases h
    | some x =>
      rw [hi] at h
      cases x with
      | emp => cases h; exact .inl ⟨rfl, fun o z => by cases z⟩
      | dat d => cases h; exact .inl ⟨rfl, fun o z => by cases z⟩
      | own o =>
        have h := Option.some.inj h
        cases hk : rs.findIdx? (isBor i) with
        | none => simp only [hk] at h; subst h; exact .inl ⟨rfl, fun _ _ => rfl⟩
        | some k => simp only [hk] at h; exact .inr ⟨o, k, rfl, find_bor hk, h.symm⟩
  have slot : ∀ {i k : Nat}, rs[k]? = some (Rz.bor i) → (vs.map some)[k]? = σ[i]? := fun {i k} h => by
    obtain ⟨w, w1, w2, _⟩ := rrs_get rr h
    cases w2 with
    | bor hz => rw [hz, List.getElem?_map, w1]; rfl
  have gd : ∀ (i : Nat) (s : SD), s ≠ .emp → s = as.getD i .emp → as[i]? = some s := fun i s hne h => by
    rw [List.getD_eq_getElem?_getD] at h
    cases hr : as[i]? with
    | none => rw [hr] at h; exact absurd h hne
    | some x => rw [hr] at h; rw [h]; rfl
  have was : ∀ (i : Nat) (o : OD), (backS ρ rs as)[i]? = some (SD.own o) → ∃ o', ρ[i]? = some (SD.own o') := fun i o h => by
    rcases get i _ h with ⟨h1, _⟩ | ⟨o', k, h1, _, _⟩
    · exact ⟨o, h1⟩
    · exact ⟨o', h1⟩
  have RO : Rep K B G' H' σ (backS ρ rs as) := by
    refine ⟨RA.gh, RA.tb, R.z.step (S.weak BB), fun a hb => RA.bh a (BB a hb), by unfold backS; rw [List.length_mapIdx]; exact R.len, fun i d h => ?_, fun i o h => ?_, fun i j o u q x y z t => ?_⟩
    · rcases get i _ h with ⟨h1, _⟩ | ⟨o', k, h1, h2, h3⟩
      · obtain ⟨w, w1, w2⟩ := R.dat i d h1
        exact ⟨w, w1, w2.mono S.g⟩
      · rw [← slot h2]
        exact RA.dat k d (gd k _ (by intro z; cases z) h3)
    · rcases get i _ h with ⟨h1, h2⟩ | ⟨o', k, h1, h2, h3⟩
      · obtain ⟨q, ho, w1, w2, w3, w4, w5⟩ := R.own i o h1
        have nm := find_none (h2 o rfl)
        have hB : Tr H q ∧ ∀ (i : Nat) (o : OD), Rz.bor i ∈ rs → ρ[i]? = some (SD.own o) → σ[i]? ≠ some (some (V.ref q)) := ⟨⟨_, w2, w5.nt⟩, fun j u hj hu hz => nm ((R.sep j i u o q hu h1 hz w1) ▸ hj)⟩
        exact ⟨q, ho, w1, S.h q ho hB w2 w5.nt, (S.n q ho hB w2 w5.ow).trans w3, w4, w5.mono S.g⟩
      · rw [← slot h2]
        obtain ⟨q, ho, w1, w2, w3, w4, w5⟩ := RA.own k o (gd k _ (by intro z; cases z) h3)
        exact ⟨q, ho, w1, w2, w3, fun hb => w4 (BB q hb), w5⟩
    · obtain ⟨o', h1⟩ := was i o x
      obtain ⟨u', h2⟩ := was j u y
      exact R.sep i j o' u' q h1 h2 z t
  refine ⟨S.weak BB, RO, ?_⟩
  cases rv with
  | dat z => exact .dat z
  | bor z => cases hf
  | own h1 h2 h3 h4 h5 =>
    rename_i p ho o
    refine .own h1 h2 (fun hb => h3 (BB _ hb)) h4 fun i u hi hz => ?_
    rcases get i _ hi with ⟨g1, g2⟩ | ⟨o', k, g1, g2, g3⟩
    · obtain ⟨q, hq, w1, w2, w3, w4, w5⟩ := R.own i u g1
      rw [hz] at w1; cases w1
      have nm := find_none (g2 u rfl)
      exact h3 ⟨⟨_, w2, w5.nt⟩, fun j u' hj hu hz' => nm ((R.sep j i u' u p hu g1 hz' hz) ▸ hj)⟩
    · exact h5 k u (gd k _ (by intro z; cases z) g3) (by rw [slot g2]; exact hz)
/-- an exception that leaves a call leaves its caller's entry too -/
theorem lk_call {K : KT} {B B' : Addr → Prop} {G H : Hp} {Ξ : Xp} {W : WX} {σ : L2.St} (z : Zt K B G H) (hb : ∀ a, B a → B' a) (lk : Lk K.F K.B0 K.G0 K.H0 Ξ W) : Lk K.F B' G H Ξ (fun cls d _ H' => W cls d σ H') :=
  fun G' H' _ C d fs v u S b1 tb ex h1 h2 h3 r q => lk G' H' σ C d fs v u (z.s.trans (S.weak fun a h => hb a (z.b a h))) (fun a h => b1 a (hb a (z.b a h))) tb ex h1 h2 h3 r q
theorem call_b {B : Addr → Prop} {G H : Hp} {σ : L2.St} {ρ : Sl} {rs : List Rz} (R : Rep K B G H σ ρ) : ∀ a, B a → Tr H a ∧ ∀ (i : Nat) (o : OD), Rz.bor i ∈ rs → ρ[i]? = some (SD.own o) → σ[i]? ≠ some (some (V.ref a)) := fun a hb => ⟨R.bh a hb, fun i o _ hi hz => by
  obtain ⟨q, ho, h1, h2, h3, h4, h5⟩ := R.own i o hi
  rw [hz] at h1; cases h1; exact h4 hb⟩
theorem we_call {n : Nat} {Ξ : Xp} {W : WX} (lk : Lk K.F K.B0 K.G0 K.H0 Ξ W) (ha : WAa K t wa) : WE K (tCallG K.F K.T n F W t) (wCall n F Ξ wa) := fun B G H σ ρ Q QV R q k =>
  ha B G H σ ρ _ _ R q fun vs G1 H1 ρ1 rs S1 R1 rr ⟨hl, ho, q1⟩ =>
    ⟨_, G1, rs.map (argOf ρ1), _, Ξ, by rw [rrs_len rr]; exact hl, call_in R1 rr ho, q1, fun v G' H' as' r S' RA rv hf q2 => by
      obtain ⟨a, b, c⟩ := call_out R1 rr S' RA rv hf
      exact k v G' H' _ r (S1.trans a) b c q2, lk_call R1.z (call_b R1) lk⟩
theorem pe_callG {k : Nat} {f : Addr} {fd : FuncData} {ps : List Str} (F0 : FnG X.prog X.w X.cx.K X.T X.mg X.base k f fd ps F) (hr : Room k X.A) (hgd : X.A.guards = some []) (hg : Gl X x) (hm : X.mg x = some (.ref f)) (hk : PySem.W.keepIn X.cx.K (.ref f) = true) (hb : Binds X.cx.K fd ps [])
    (ha : PA X (e :: es) t) (hdb : (x == ("__debug__" : Str)) = false := by decide) (he : starEach (e :: es) X.env = (false, eval e X.env) :: starEach es X.env := by rfl) (hpl : (backTo pos (starEach es X.env)).any (·.1) = false := by rfl) :
    PE X (.Call (.Name x p) (e :: es) [] pos) (tCallG X.cx.K X.T ps.length F X.W t) := by
  refine ⟨fun pins s σ H Q I h => ?_⟩
  refine wpAny_Call_Name_kw (ld_glob I hg hm ?_ hdb)
  refine PySem.W.callWith_K (h₀ := X.base) I.ok.mod.kin hk (thn (ha.run pos pins s σ H _ I h) fun us s1 ⟨vs, H1, I1, r, q⟩ => ⟨I1.kIn, ?_⟩) he hpl
  obtain ⟨B, G, as, Q', Ξ, hl, R, hF, hk, hx⟩ := q
  have hb' := hb s1 us I1.kIn (by rw [List.append_nil, ← r.length]; exact hl)
  rw [List.append_nil] at hb'
  refine wpAny_call (codeAny_mono (F0.run X.A X.stack s1 H1 ⟨us, []⟩ us vs B G as Q' Ξ Q (fun cls d H' => X.W cls d σ H') hr hgd I1.env0 hb' r hl R hF hk hx) fun r s' hq => ?_)
  match r, hq with
  | .ok (.ret u), hq => exact I1.after hq
  | .ok .next, hq => exact False.elim hq
  | .ok .brk, hq => exact False.elim hq
  | .ok .cont, hq => exact False.elim hq
  | .error e, hq => exact X.tk e s' (XE.of_call I1 (fun _ _ _ h => h) hq)
theorem de_call {k : Nat} {f : Addr} {fd : FuncData} {ps : List Str} (F0 : FnG X.prog X.w X.cx.K X.T X.mg X.base k f fd ps F) (hr : Room k X.A) (hgd : X.A.guards = some []) (hg : Gl X x) (hm : X.mg x = some (.ref f)) (hk : PySem.W.keepIn X.cx.K (.ref f) = true) (hb : Binds X.cx.K fd ps [])
    (ha : DA X (e :: es) t wa) (hdb : (x == ("__debug__" : Str)) = false := by decide) (he : starEach (e :: es) X.env = (false, eval e X.env) :: starEach es X.env := by rfl) (hpl : (backTo pos (starEach es X.env)).any (·.1) = false := by rfl) :
    DE X (.Call (.Name x p) (e :: es) [] pos) (tCallG X.cx.K X.T ps.length F X.W t) (wCall ps.length F X.Ξ wa) := ⟨pe_callG F0 hr hgd hg hm hk hb ha.pa hdb he hpl, we_call X.lk ha.wa⟩
end
end DL

set_option Elab.async false
set_option linter.all false
set_option maxRecDepth 100000
set_option maxHeartbeats 2000000
namespace DL
open PySem L2
/-- a def that can be called by its name -/
structure Cal (P : Program) (w : World) (KF : PySem.W.Frag) (Ts : List (Addr × Str)) (mg : Str → Option Value) (base : Heap) (k : Nat) (x : Str) (ps : List Str) (F : Fd) : Prop where
  ex : ∃ f fd, mg x = some (.ref f) ∧ PySem.W.keepIn KF (.ref f) = true ∧ Binds KF fd ps [] ∧ FnG P w KF Ts mg base k f fd ps F
/-! ### the law's own call -/
/-- a def that makes lambdas: its name, its code object, that one's table, the name of what is made there -/
structure Lm where
  x : Str
  c : Addr
  P : Addr
  q : Str
/-- the heap that the layer sees at the law's entry: the script alone, known to the object -/
def seen (K : PySem.W.Frag) (a : Addr) (vs : List Value) (ns : List Int) : Hp := fun b => match K.lookup a with
  | some _ => none
  | none => if b = a then some (.frz { cls := .type "list", data := .seq vs.toArray } (.lst (ns.map V.int))) else none
theorem seen_at {K : PySem.W.Frag} {a : Addr} {vs : List Value} {ns : List Int} {b : Addr} {u : HO} (h : seen K a vs ns b = some u) : K.lookup a = none ∧ b = a ∧ u = .frz { cls := .type "list", data := .seq vs.toArray } (.lst (ns.map V.int)) := by
  unfold seen at h
  split at h
  · cases h
  · rename_i e
    by_cases hb : b = a
    · rw [if_pos hb] at h; cases h; exact ⟨e, hb, rfl⟩
    · rw [if_neg hb] at h; cases h
/-- .. and the tables, as they stand; .. and their marks -/
def seenT (ls : List Lm) (H : Hp) : Hp := fun b => match ls.find? fun p => p.P == b with
  | some _ => some (.tbl #[])
  | none => H b
def markT (ls : List Lm) (H : Hp) : Hp := fun b => match ls.find? fun p => p.P == b with
  | some p => some (.tbl #[Value.str p.q 0])
  | none => H b
theorem find_mem {ls : List Lm} {b : Addr} {p : Lm} (h : (ls.find? fun p => p.P == b) = some p) : p ∈ ls ∧ p.P = b := ⟨List.mem_of_find?_eq_some h, by have := List.find?_some h; simpa using this⟩
theorem find_one {ls : List Lm} (nd : (ls.map (·.P)).Nodup) {p : Lm} (h : p ∈ ls) : (ls.find? fun q => q.P == p.P) = some p := by
  induction ls with
  | nil => cases h
  | cons r ls ih =>
    rw [List.map_cons, List.nodup_cons] at nd
    rcases List.mem_cons.mp h with rfl | h
    · simp [List.find?]
    · have : (r.P == p.P) = false := by
        have : r.P ≠ p.P := fun z => nd.1 (List.mem_map.mpr ⟨p, h, z.symm⟩)
        simpa using this
      rw [List.find?_cons_of_neg (by simp [this])]
      exact ih nd.2 h
theorem law_runs {P : Program} {w : World} {K : PySem.W.Frag} {mg mb : Str → Option Value} {k : Nat} {fa a : Addr} {x y : Str} {F : Fd} {s : Shared} {vs : List Value} {ns : List Int} {ls : List Lm}
    (KX : K.In s.heap) (hns : s.heap.Ns mainGlobals mg) (hb : s.heap.Ns builtinsNs mb) (hbb : ∀ x : Str, x ≠ "__name__" → mb x = bootBuiltins x) (hlim : s.heap.NoLimit) (hg : s.gens = #[])
    (hT : ∀ p ∈ ls, s.heap.get? p.P = some { cls := .none, data := .fields #[] }) (nT : ∀ p ∈ ls, K.lookup p.P = none) (C : ∀ p ∈ ls, PySem.W.CodeHd s.heap p.c p.P) (nd : (ls.map (·.P)).Nodup)
    (hbm : ∃ (bm : Addr) (ob : Obj), mg "__builtins__" = some (.ref bm) ∧ bm ≠ builtinsNs ∧ s.heap.get? bm = some ob ∧ ob.cls = .type "module" ∧ ob.dict = some builtinsNs ∧ ob.data = .plain)
    (ha : s.heap.get? a = some { cls := .type "list", data := .seq vs.toArray }) (hi : PyProof.Rows.IntsAre vs ns) (hl : ns.length ≤ sizeLine) (hr : Room k callerA)
    (hf : ∀ base : Heap, K.In base → base.Ns mainGlobals mg → (∀ p ∈ ls, LamX.TabB base mg p.c p.P) → Cal P w K (ls.map fun p => (p.P, p.q)) mg base k y [x] F) (hy : mg y = some (.ref fa))
    (hF : F [.dat (.scr ns)] (fun r _ => r = .dat (.bl true)) noX) :
    codeAny (model P w) callerA (.call (.ref fa) ⟨[.ref a], []⟩) (fun r s' => r = .ok (.ret (.bool true)) ∧ OldK s.heap s'.heap ∧ s'.os = s.os ∧ PyProof.Rows.AllBare s'.gens) s := by
  have rv := vals_ints hi
  have aT : ∀ p ∈ ls, p.P ≠ a := fun p hp z => by
    have e := hT p hp
    rw [z, ha] at e
    cases e
  have fa0 : (ls.find? fun p => p.P == a) = none := List.find?_eq_none.mpr fun p hp z => aT p hp (by simpa using z)
  generalize hHdef : seenT ls (seen K a vs ns) = H
  have hH : ∀ b, H b = match ls.find? fun p => p.P == b with | some _ => some (.tbl #[]) | none => seen K a vs ns b := fun b => by rw [← hHdef]; rfl
  have tbl : ∀ p ∈ ls, H p.P = some (.tbl #[]) := fun p hp => by rw [hH, find_one nd hp]
  have cases' : ∀ {b : Addr} {u : HO}, H b = some u → (∃ p ∈ ls, p.P = b ∧ u = .tbl #[]) ∨ (K.lookup a = none ∧ b = a ∧ u = .frz { cls := .type "list", data := .seq vs.toArray } (.lst (ns.map V.int))) := fun {b u} h => by
    rw [hH] at h
    cases e : ls.find? fun p => p.P == b with
    | some p => rw [e] at h; cases h; exact .inl ⟨p, (find_mem e).1, (find_mem e).2, rfl⟩
    | none => rw [e] at h; exact .inr (seen_at h)
  have hHok : HOk P w H s.heap := fun b u h => by
    rcases cases' h with ⟨p, hp, e, rfl⟩ | ⟨_, e1, e2⟩
    · rw [← e]; exact hT p hp
    · rw [e1, e2]
      exact ⟨ha, by rw [List.length_map]; exact hl, vs, _, rv, ha⟩
  have keepB : ∀ {b : Addr} {o : Obj}, s.heap.get? b = some o → H b = none → (hidT s.heap H).get? b = some o := fun e n => hidT_get e n
  -- what is tracked is a list or an empty table
  have noH : ∀ {b : Addr} {o : Obj}, s.heap.get? b = some o → (∀ xs n, o.data ≠ .seq xs n) → o.data ≠ .fields #[] → H b = none := fun {b o} e n1 n2 => by
    cases q : H b with
    | none => rfl
    | some u =>
      rcases cases' q with ⟨p, hp, ep, _⟩ | ⟨_, eb, _⟩
      · rw [← ep, hT p hp] at e; cases e; exact absurd rfl n2
      · rw [eb, ha] at e; cases e; exact absurd rfl (n1 _ _)
  have dictN : ∀ {b : Addr} {m : Str → Option Value}, s.heap.Ns b m → (hidT s.heap H).Ns b m := fun {b m} ⟨o, es, ep, e, d, r⟩ => by
    refine ⟨o, es, ep, keepB e (noH e (fun xs n z => ?_) fun z => ?_), d, r⟩
    · rw [d] at z; cases z
    · rw [d] at z; cases z
  have hKb : K.In (hidT s.heap H) := fun b o e => keepB (KX b o e) (by
    cases q : H b with
    | none => rfl
    | some u =>
      rcases cases' q with ⟨p, hp, ep, _⟩ | ⟨n, eb, _⟩
      · have := nT p hp; rw [ep, e] at this; cases this
      · rw [eb, n] at e; cases e)
  have TB : ∀ p ∈ ls, LamX.TabB (hidT s.heap H) mg p.c p.P := fun p hp => by
    refine ⟨?_, ?_, fun z => ?_⟩
    · obtain ⟨o, us, file, tf, flags, tg, inF, text, tt, e1, r1, r2, r3, rest⟩ := C p hp
      refine ⟨o, us, file, tf, flags, tg, inF, text, tt, keepB e1 (noH e1 (fun xs n z => ?_) fun z => ?_), r1, r2, r3, rest⟩
      · rw [r2] at z; cases z
      · rw [r2] at z; cases z; simp at r3
    · obtain ⟨bm, ob, b1, b2, b3, b4, b5, b6⟩ := hbm
      refine ⟨bm, ob, b1, b2, fun q => ?_, fun q => ?_, keepB b3 (noH b3 (fun xs n z => ?_) fun z => ?_), b4, b5, b6⟩
      · obtain ⟨o, es, ep, e, hd, _⟩ := hns
        rw [q, e] at b3
        cases b3
        rw [hd] at b6; cases b6
      · rw [q, hT p hp] at b3; cases b3; cases b6
      · rw [b6] at z; cases z
      · rw [b6] at z; cases z
    · obtain ⟨o, es, ep, e, hd, _⟩ := hns
      rw [z, hT p hp] at e
      cases e; cases hd
  have e0 : Env0 P w K mg (hidT s.heap H) callerA [] s H :=
    ⟨rfl, ⟨hKb, dictN hns, ⟨mb, dictN hb, hbb⟩, let ⟨mc, h1, h2⟩ := hlim; ⟨mc, dictN h1, h2⟩⟩, fun b o e => of_hidT e, Nat.le_of_eq (hidT_size _ _), trivial, fun b hb => (List.not_mem_nil hb).elim, hHok, .of_eq hg⟩
  generalize hGdef : markT ls (seen K a vs ns) = G
  have hG : ∀ b, G b = match ls.find? fun p => p.P == b with | some p => some (.tbl #[Value.str p.q 0]) | none => seen K a vs ns b := fun b => by rw [← hGdef]; rfl
  have gh : Ex G H := fun b o h n => by
    rw [hG] at h
    cases e : ls.find? fun p => p.P == b with
    | some p => rw [e] at h; cases h; exact absurd rfl (n _)
    | none => rw [e] at h; rw [hH, e]; exact h
  have tb : Tb G H := fun b ps h => by
    rw [hG] at h
    cases e : ls.find? fun p => p.P == b with
    | some p =>
      rw [e] at h; cases h
      refine ⟨_, _, rfl, ?_⟩
      obtain ⟨m1, m2⟩ := find_mem e
      rw [← m2]
      exact .nil (tbl p m1)
    | none => rw [e] at h; obtain ⟨_, _, z⟩ := seen_at h; cases z
  have mk : ∀ p ∈ ls.map fun p => (p.P, p.q), G p.1 = some (.tbl #[Value.str p.2 0]) := fun p hp => by
    obtain ⟨r, hr, rfl⟩ := List.mem_map.mp hp
    show G r.P = _
    rw [hG, find_one nd hr]
  have mk2 : ∀ b ps, G b = some (.tbl ps) → ∃ p ∈ ls.map fun p => (p.P, p.q), p.1 = b := fun b ps h => by
    rw [hG] at h
    cases e : ls.find? fun p => p.P == b with
    | some p => exact ⟨(p.P, p.q), List.mem_map.mpr ⟨p, (find_mem e).1, rfl⟩, (find_mem e).2⟩
    | none => rw [e] at h; obtain ⟨_, _, z⟩ := seen_at h; cases z
  have hSq : SqL K G a (ns.map V.int) := by
    cases hk : K.lookup a with
    | none => exact .inl (.inr ⟨{ cls := .type "list", data := .seq vs.toArray }, by rw [hG, fa0]; unfold seen; rw [hk]; exact if_pos rfl⟩)
    | some o =>
      have e := KX a o hk
      rw [ha] at e
      cases e
      exact .inr ⟨_, vs.toArray, _, hk, rfl, rfl, rfl, by rw [List.size_toArray, hi.length]; exact hl, by simpa using rv⟩
  have R : Rep ⟨K, ls.map fun p => (p.P, p.q), Tr H, G, H⟩ (Tr H) G H ([V.ref a].map some) [.dat (.scr ns)] := by
    refine ⟨gh, tb, ⟨fun _ h => h, .refl, mk, mk2⟩, fun _ h => h, rfl, fun i d h => ?_, fun i o h => ?_, fun i j o u p h => ?_⟩
    · match i, h with
      | 0, h => cases h; exact ⟨_, rfl, .scr hSq⟩
    · match i, h with
      | 0, h => cases h
    · match i, h with
      | 0, h => cases h
  obtain ⟨f', fd, hm', _, hbd, hfn⟩ := (hf _ hKb (dictN hns) TB).ex
  rw [hy] at hm'
  cases hm'
  have hbind := hbd s [.ref a] KX rfl
  refine codeAny_mono (hfn.run callerA [] s H ⟨[.ref a], []⟩ [.ref a] [.ref a] _ _ _ _ noX (fun v _ => v = .bl true) L2.E0 hr rfl e0 hbind (.cons rfl .nil) rfl R hF (fun v G' H' as' r S' RA rr _ q => ?_) lk_no) fun r s' h => ?_
  · subst q
    cases rr with
    | dat z => cases z; rfl
  · match r, h with
    | .ok (.ret u), ⟨v, H', os, bare, un, hok', r', q⟩ =>
      have q : v = .bl true := q
      subst q
      have r' : u = Value.bool true := r'
      subst r'
      have grown : ∀ p ∈ ls, ∃ more : Array Value, s'.heap.get? p.P = some { cls := .none, data := .fields more } := fun p hp => by
        obtain ⟨more, z⟩ := un.tbls p.P #[] (tbl p hp)
        exact ⟨_, hok' p.P _ z⟩
      have same : ∀ b o, (∀ p ∈ ls, p.P ≠ b) → s.heap.get? b = some o → s'.heap.get? b = some o := fun b o nb e => by
        cases q : H b with
        | none => exact un.keep b o e q (fun z => List.not_mem_nil z) (fun z => List.not_mem_nil z)
        | some u =>
          rcases cases' q with ⟨p, hp, ep, _⟩ | ⟨_, e1, e2⟩
          · exact absurd ep (nb p hp)
          · rw [e2] at q
            have z2 := un.frzs b _ _ q
            obtain ⟨g, _⟩ := hok' b _ z2
            rw [e1] at e ⊢
            rw [ha] at e; cases e
            rw [e1] at g
            exact g
      refine ⟨rfl, ⟨fun b o e => ?_, fun b o e => ?_⟩, os, bare⟩
      · by_cases hb : ∃ p ∈ ls, p.P = b
        · obtain ⟨p, hp, rfl⟩ := hb
          obtain ⟨more, hm⟩ := grown p hp
          rw [hT p hp] at e
          cases e
          exact .inr (.inl ⟨((C p hp).tab (hT p hp)).isCodeTable, rfl, #[], more, rfl, by rw [Array.empty_append]; exact hm⟩)
        · exact .inl (same b o (fun p hp z => hb ⟨p, hp, z⟩) e)
      · by_cases hb : ∃ p ∈ ls, p.P = b
        · obtain ⟨p, hp, rfl⟩ := hb
          obtain ⟨more, hm⟩ := grown p hp
          exact ⟨_, hm⟩
        · exact ⟨o, same b o (fun p hp z => hb ⟨p, hp, z⟩) e⟩
    | .ok .next, h => exact False.elim h
    | .ok .brk, h => exact False.elim h
    | .ok .cont, h => exact False.elim h
    | .error e, ⟨_, _, _, _, _, _, _, _, _, _, _, _, z⟩ => exact False.elim z
theorem law_walks {l : PySem.W.OpenLaw} {n k : Nat} {q : Program} {loose : List Str} {XP : (Str → Option Value) → Heap → Prop} {YP : World → Heap → Prop} {d : DefRec} {K : Params → PySem.W.Frag} {F : World → Fd} {x : Str} {ls : List Lm}
    (hn : l.most = some n) (hn2 : n ≤ sizeLine) (hdf : d.params.defaults = []) (hr : Room k callerA) (hY : ∀ (w : World) (h : Heap), YP w h → (K w.params).In h)
    (nd : (ls.map (·.P)).Nodup) (hrec : ∀ p ∈ ls, ((PyProof.Rows.recsOf q).find? fun e => e.name == p.x).isSome = true)
    (htab : ∀ (w : World), ∀ p ∈ ls, PySem.W.tabIn (K w.params) p.x = some (p.c, p.P) ∧ (K w.params).lookup p.P = none)
    (hf : ∀ (w : World) (mg : Str → Option Value) (h : Heap), (K w.params).In h → h.Ns mainGlobals mg →
      ∀ base : Heap, (K w.params).In base → base.Ns mainGlobals mg → (∀ p ∈ ls, LamX.TabB base mg p.c p.P) → Cal l.prog w (K w.params) (ls.map fun p => (p.P, p.q)) mg base k d.name [x] (F w))
    (hF : ∀ (w : World) (ns : List Int), ns.length ≤ n → (∀ z ∈ ns, Builtin.Int.intBits z ≤ 1048576) → F w [.dat (.scr ns)] (fun r _ => r = .dat (.bl true)) noX) :
    PySem.W.WalkO q loose XP YP l.row.toRowW d [] (fun f vs => PySem.call f vs) := by
  refine Att.attach_callB hn hdf fun w s₀ s₁ mg mb fa o pm cd doc a vs ns G Y ho hd hcd hmg hobj hints hlen hbits hg => ?_
  have KX := hY w _ Y
  have tabs : ∀ p ∈ ls, PySem.W.CodeHd s₁.heap p.c p.P ∧ s₁.heap.get? p.P = some { cls := .none, data := .fields #[] } := fun p hp => by
    obtain ⟨dr, hdr⟩ := Option.isSome_iff_exists.mp (hrec p hp)
    exact PySem.W.tab_of G.T KX hdr (htab w p hp).1
  exact law_runs KX G.T.g G.T.b G.T.builtins G.T.nolimit hg (fun p hp => (tabs p hp).2) (fun p hp => (htab w p hp).2) (fun p hp => (tabs p hp).1) nd G.T.bmain hobj hints (Nat.le_trans hlen hn2) hr (hf w mg _ KX G.T.g) hmg (hF w ns hlen hbits)
end DL

set_option Elab.async false
set_option linter.all false
set_option maxRecDepth 100000
set_option maxHeartbeats 2000000
namespace DL
open PySem L2
def pin (l : List Nat) : Nat → Bool := fun i => l.contains i
section
variable {X : CxT} {K : KT} {T : Nat → Bool} {e : Expr} {es : List Expr} {te : TE} {t : TA} {we : We} {wa : Wa} {x : Str} {p pos : Pos} {id Ty : String} {r : List V → Hp → VK → Prop} {D : Dn}
theorem de_callB (h : DB X (.builtin id) r D) (hm : X.mg x = none) (hv : bootBuiltins x = some (.builtin id)) (ha : DA X (e :: es) t wa) (hg : Gl X x := by rfl) (hn : x ≠ "__name__" := by decide) (hdb : (x == ("__debug__" : Str)) = false := by decide)
    (he : starEach (e :: es) X.env = (false, eval e X.env) :: starEach es X.env := by rfl) (hpl : (backTo pos (starEach es X.env)).any (·.1) = false := by rfl) : DE X (.Call (.Name x p) (e :: es) [] pos) (tCB r t) (wCB D wa) := ⟨pe_callB h.c hg hm hv ha.pa hn hdb he hpl, we_cb h.ok ha.wa⟩
theorem de_callT (h : DB X (.type Ty) r D) (hm : X.mg x = none) (hv : bootBuiltins x = some (.type Ty)) (ha : DA X (e :: es) t wa) (hg : Gl X x := by rfl) (hn : x ≠ "__name__" := by decide) (hdb : (x == ("__debug__" : Str)) = false := by decide)
    (he : starEach (e :: es) X.env = (false, eval e X.env) :: starEach es X.env := by rfl) (hpl : (backTo pos (starEach es X.env)).any (·.1) = false := by rfl) : DE X (.Call (.Name x p) (e :: es) [] pos) (tCB r t) (wCB D wa) := ⟨pe_callTy h.c hg hm hv ha.pa hn hdb he hpl, we_cb h.ok ha.wa⟩
/-- list(range(..)) -/
def wLstRg (wi : Wi) : We := fun ρ Q => wi ρ fun ds ρ1 => Q (.own (.lst ds)) ρ1
def wRg1 (we : We) : Sl → (Int → Int → Sl → Prop) → Prop := fun ρ Q => we ρ fun r ρ1 => match r with
  | .dat (.int n) => Q 0 n ρ1
  | _ => False
def wRg2 (wa wb : We) : Sl → (Int → Int → Sl → Prop) → Prop := fun ρ Q => wa ρ fun r ρ1 => match r with
  | .dat (.int i) => wb ρ1 fun r' ρ2 => match r' with
    | .dat (.int j) => Q i j ρ2
    | _ => False
  | _ => False
def WRg (K : KT) (te : L2.St → Hp → (Int → Int → Hp → Prop) → Prop) (w : Sl → (Int → Int → Sl → Prop) → Prop) : Prop := ∀ (B : Addr → Prop) (G H : Hp) (σ : L2.St) (ρ : Sl) (Q : Int → Int → Sl → Prop) (QV : Int → Int → Hp → Prop), Rep K B G H σ ρ → w ρ Q →
  (∀ i j G' H' ρ', Stp B G H G' H' → Rep K B G' H' σ ρ' → Q i j ρ' → QV i j H') → te σ H QV
structure DRg (X : CxT) (e : Expr) (te : L2.St → Hp → (Int → Int → Hp → Prop) → Prop) (w : Sl → (Int → Int → Sl → Prop) → Prop) : Prop where
  pr : PRg X e te
  wr : WRg X.K te w
theorem drg_1 {a : Expr} {ta : TE} {wA : We} (hm : X.mg "range" = none) (ha : DE X a ta wA) (hg : Gl X "range" := by rfl) (na : starEach [a] X.env = (false, eval a X.env) :: starEach [] X.env := by rfl) : DRg X (.Call (.Name "range" p) [a] [] pos) (tRg1 ta) (wRg1 wA) :=
  ⟨prg_1 hg hm ha.pe na, fun B G H σ ρ Q QV R q k => ha.we B G H σ ρ _ _ R q fun v G1 H1 ρ1 r S1 R1 rr q1 => by
    match r, rr, q1 with
    | .dat (.int n), .dat (.int _), q1 => exact ⟨n, rfl, k 0 n G1 H1 ρ1 S1 R1 q1⟩⟩
theorem drg_2 {a b : Expr} {ta tb : TE} {wA wB : We} (hm : X.mg "range" = none) (ha : DE X a ta wA) (hb : DE X b tb wB) (hg : Gl X "range" := by rfl) (na : starEach [a, b] X.env = (false, eval a X.env) :: starEach [b] X.env := by rfl) (nb : starEach [b] X.env = (false, eval b X.env) :: starEach [] X.env := by rfl) (hpl : (backTo pos (starEach [b] X.env)).any (·.1) = false := by rfl) : DRg X (.Call (.Name "range" p) [a, b] [] pos) (tRg2 ta tb) (wRg2 wA wB) :=
  ⟨prg_2 hg hm ha.pe hb.pe na nb hpl, fun B G H σ ρ Q QV R q k => ha.we B G H σ ρ _ _ R q fun v G1 H1 ρ1 r S1 R1 rr q1 => by
    match r, rr, q1 with
    | .dat (.int n), .dat (.int _), q1 =>
      refine hb.we B G1 H1 σ ρ1 _ _ R1 q1 fun v2 G2 H2 ρ2 r2 S2 R2 rr2 q2 => ?_
      match r2, rr2, q2 with
      | .dat (.int m), .dat (.int _), q2 => exact ⟨n, m, rfl, rfl, k n m G2 H2 ρ2 (S1.trans S2) R2 q2⟩⟩
def wListRg (w : Sl → (Int → Int → Sl → Prop) → Prop) : We := fun ρ Q => w ρ fun i j ρ1 => RgOk i j ∧ Q (.own (.lst (rgP i (j - i).toNat))) ρ1
def wTupRg (w : Sl → (Int → Int → Sl → Prop) → Prop) : We := fun ρ Q => w ρ fun i j ρ1 => RgOk i j ∧ Q (.dat (.tup (rgP i (j - i).toNat))) ρ1
theorem rp_rg {G : Hp} (i j : Int) : RpAll K G (rgV i j) (rgP i (j - i).toNat) := by
  unfold rgV rgP
  induction (List.range (j - i).toNat) with
  | nil => exact .nil
  | cons n ns ih => exact .cons (.int _) ih
theorem de_listRg {tr : L2.St → Hp → (Int → Int → Hp → Prop) → Prop} {wr : Sl → (Int → Int → Sl → Prop) → Prop} (hc : X.calm = true) (hm : X.mg "list" = none) (h : DRg X e tr wr) (hg : Gl X "list" := by rfl) (na : starEach [e] X.env = (false, eval e X.env) :: starEach [] X.env := by rfl) :
    DE X (.Call (.Name "list" p) [e] [] pos) (tLstRg tr) (wListRg wr) := ⟨pe_listRg hc hg hm h.pr na, fun B G H σ ρ Q QV R q k => h.wr B G H σ ρ _ _ R q fun i j G1 H1 ρ1 S1 R1 ⟨ho, q1⟩ =>
  ⟨ho, fun n hn => Gv.new (K := X.K) (Q := fun r => Q r ρ1) (fun v G' H' r S3 R3 rr3 q3 => k v G' H' ρ1 r (S1.trans S3) R3 rr3 q3) R1 hn (.lst (rp_rg i j)) q1⟩⟩
theorem de_tupRg {tr : L2.St → Hp → (Int → Int → Hp → Prop) → Prop} {wr : Sl → (Int → Int → Sl → Prop) → Prop} (hc : X.calm = true) (hm : X.mg "tuple" = none) (h : DRg X e tr wr) (hg : Gl X "tuple" := by rfl) (na : starEach [e] X.env = (false, eval e X.env) :: starEach [] X.env := by rfl) :
    DE X (.Call (.Name "tuple" p) [e] [] pos) (tTupRg tr) (wTupRg wr) := ⟨pe_tupRg hc hg hm h.pr na, fun B G H σ ρ Q QV R q k => h.wr B G H σ ρ _ _ R q fun i j G1 H1 ρ1 S1 R1 ⟨ho, q1⟩ =>
  ⟨ho, fun n hn => Gv.tup (K := X.K) (Q := fun r => Q r ρ1) (fun v G' H' r S3 R3 rr3 q3 => k v G' H' ρ1 r (S1.trans S3) R3 rr3 q3) R1 hn (rp_rg i j) q1⟩⟩
variable {a b c : Expr} {ta tb tc : TE} {wA wB' wC' : We} {op op' : CmpOp} {r1 r2 : R2} {D1 D2 : DL.D2}
def wChain (D1 D2 : DL.D2) (wA wB' wC' : We) : We := fun ρ Q => wA ρ fun ra ρ1 => (ra.cold = true ∨ ∃ d, ra.pd ρ1 = some d) ∧ wB' ρ1 fun rb ρ2 => (rb.cold = true ∨ ∃ d, rb.pd ρ2 = some d) ∧ look ra ρ2 fun x => look rb ρ2 fun y => D1 x y fun z => match z with
  | .dat (.bl true) => wC' ρ2 fun rc ρ3 => look rb ρ3 fun y' => look rc ρ3 fun w => D2 y' w fun z' => Q z' ρ3
  | .dat (.bl false) => Q (.dat (.bl false)) ρ2
  | _ => False
theorem de_cal {k n : Nat} {ps : List Str} {F : Fd} (C : Cal X.prog X.w X.cx.K X.T X.mg X.base k x ps F) (hr : Room k X.A) (hgd : X.A.guards = some []) (ha : DA X (e :: es) t wa) (hg : Gl X x := by rfl) (hdb : (x == ("__debug__" : Str)) = false := by decide) (he : starEach (e :: es) X.env = (false, eval e X.env) :: starEach es X.env := by rfl) (hpl : (backTo pos (starEach es X.env)).any (·.1) = false := by rfl) (hn : ps.length = n := by rfl) :
    DE X (.Call (.Name x p) (e :: es) [] pos) (tCallG X.cx.K X.T n F X.W t) (wCall n F X.Ξ wa) := by
  subst hn
  obtain ⟨f, fd, h1, h2, h3, h4⟩ := C.ex
  exact de_call h4 hr hgd hg h1 h2 h3 ha hdb he hpl
/-- a call that raises nothing -/
theorem de_calN {KF : PySem.W.Frag} {Ts : List (Addr × Str)} {k n : Nat} {ps : List Str} {F : Fd} (C : Cal X.prog X.w KF Ts X.mg X.base k x ps F) (hr : Room k X.A) (hgd : X.A.guards = some []) (ha : DA X (e :: es) t wa) (hK : X.cx.K = KF := by rfl) (hT : X.T = Ts := by rfl) (hg : Gl X x := by rfl) (hdb : (x == ("__debug__" : Str)) = false := by decide) (he : starEach (e :: es) X.env = (false, eval e X.env) :: starEach es X.env := by rfl) (hpl : (backTo pos (starEach es X.env)).any (·.1) = false := by rfl) (hn : ps.length = n := by rfl) :
    DE X (.Call (.Name x p) (e :: es) [] pos) (tCallG KF Ts n F (fun _ _ _ _ => False) t) (wCall n F noX wa) := by
  subst hn hK hT
  obtain ⟨f, fd, hm, hk, hb, F0⟩ := C.ex
  refine ⟨⟨fun pins s σ H Q I h => ?_⟩, we_call (K := X.K) lk_no ha.wa⟩
  refine wpAny_Call_Name_kw (ld_glob I hg hm ?_ hdb)
  refine PySem.W.callWith_K (h₀ := X.base) I.ok.mod.kin hk (thn (ha.pa.run pos pins s σ H _ I h) fun us s1 ⟨vs, H1, I1, r, q⟩ => ⟨I1.kIn, ?_⟩) he hpl
  obtain ⟨B, G, as, Q', Ξ, hl, R, hF, hk, hx⟩ := q
  have hb' := hb s1 us I1.kIn (by rw [List.append_nil, ← r.length]; exact hl)
  rw [List.append_nil] at hb'
  refine wpAny_call (codeAny_mono (F0.run X.A X.stack s1 H1 ⟨us, []⟩ us vs B G as Q' Ξ Q (fun _ _ _ => False) hr hgd I1.env0 hb' r hl R hF hk hx) fun r s' hq => ?_)
  match r, hq with
  | .ok (.ret u), hq => exact I1.after hq
  | .ok .next, hq => exact False.elim hq
  | .ok .brk, hq => exact False.elim hq
  | .ok .cont, hq => exact False.elim hq
  | .error e, ⟨_, _, _, _, _, _, _, _, _, _, _, _, z⟩ => exact False.elim z
/-- a call, with the written part, the tables and the wish by their own names -/
theorem de_calW {KF : PySem.W.Frag} {Ts : List (Addr × Str)} {W : WX} {Ξ : Xp} {k n : Nat} {ps : List Str} {F : Fd} (C : Cal X.prog X.w KF Ts X.mg X.base k x ps F) (hr : Room k X.A) (hgd : X.A.guards = some []) (ha : DA X (e :: es) t wa) (hK : X.cx.K = KF := by rfl) (hT : X.T = Ts := by rfl) (hW : X.W = W := by rfl) (hΞ : X.Ξ = Ξ := by rfl) (hg : Gl X x := by rfl) (hdb : (x == ("__debug__" : Str)) = false := by decide) (he : starEach (e :: es) X.env = (false, eval e X.env) :: starEach es X.env := by rfl) (hpl : (backTo pos (starEach es X.env)).any (·.1) = false := by rfl) (hn : ps.length = n := by rfl) :
    DE X (.Call (.Name x p) (e :: es) [] pos) (tCallG KF Ts n F W t) (wCall n F Ξ wa) := by
  subst hK hT hW hΞ
  exact de_cal C hr hgd ha hg hdb he hpl hn
/-- a def of the top; cd: its code object, where that matters -/
structure Dfn (KF : PySem.W.Frag) (mg : Str → Option Value) (x : Str) (st : Stmt) (cd : Option Addr) : Prop where
  ex : ∃ (f : Addr) (oc kV doc pm cdv ct : Value) (od an : Option Addr) (osl : Array (Option Value)), mg x = some (.ref f) ∧ PySem.W.keepIn KF (.ref f) = true ∧
    KF.lookup f = some ⟨oc, od, .func (PySem.W.fnOf x x (defArgs st) (defBody st) (defScope st) .none kV doc pm an cdv ct), osl⟩ ∧ PySem.W.codeIn KF cdv x = true ∧ ∀ c, cd = some c → cdv = .ref c
/-- a def, its text known -/
structure CalS (P : Program) (w : World) (KF : PySem.W.Frag) (Ts : List (Addr × Str)) (mg : Str → Option Value) (base : Heap) (k : Nat) (x : Str) (st : Stmt) (ps : List Str) (F : Fd) : Prop where
  ex : ∃ (f : Addr) (kV doc pm cdv ct : Value) (an : Option Addr), mg x = some (.ref f) ∧ PySem.W.keepIn KF (.ref f) = true ∧ FnG P w KF Ts mg base k f (PySem.W.fnOf x x (defArgs st) (defBody st) (defScope st) .none kV doc pm an cdv ct) ps F
theorem CalS.cal {P : Program} {w : World} {KF : PySem.W.Frag} {Ts : List (Addr × Str)} {mg : Str → Option Value} {base : Heap} {k : Nat} {x : Str} {st : Stmt} {ps : List Str} {F : Fd} (C : CalS P w KF Ts mg base k x st ps F)
    (h : ∀ (kV doc pm : Value) (an : Option Addr) (cdv ct : Value) (us : List Value), us.length = ps.length → bindArgs (PySem.W.fnOf x x (defArgs st) (defBody st) (defScope st) .none kV doc pm an cdv ct) ⟨us, []⟩ = pure (ps.zip us)) : Cal P w KF Ts mg base k x ps F := by
  obtain ⟨f, kV, doc, pm, cdv, ct, an, h1, h2, h3⟩ := C.ex
  exact ⟨f, _, h1, h2, .all (h kV doc pm an cdv ct), h3⟩
/-- .. called by the names of its parameters: ks, as they are written; pk: where each parameter's value stands among them -/
def pick {α : Type} (pk : List Nat) (xs : List α) : List α := pk.filterMap fun i => xs[i]?
structure CalW (P : Program) (w : World) (KF : PySem.W.Frag) (Ts : List (Addr × Str)) (mg : Str → Option Value) (base : Heap) (k : Nat) (x : Str) (ps ks : List Str) (pk : List Nat) (F : Fd) : Prop where
  ex : ∃ f fd, mg x = some (.ref f) ∧ PySem.W.keepIn KF (.ref f) = true ∧ (∀ (s : Shared) (ws : List Value), ws.length = ks.length → BindsTo s fd ⟨[], ks.zip ws⟩ (ps.zip (pick pk ws))) ∧ FnG P w KF Ts mg base k f fd ps F
theorem CalS.kw {P : Program} {w : World} {KF : PySem.W.Frag} {Ts : List (Addr × Str)} {mg : Str → Option Value} {base : Heap} {k : Nat} {x : Str} {st : Stmt} {ps ks : List Str} {pk : List Nat} {F : Fd} (C : CalS P w KF Ts mg base k x st ps F)
    (h : ∀ (kV doc pm : Value) (an : Option Addr) (cdv ct : Value) (ws : List Value), ws.length = ks.length → bindArgs (PySem.W.fnOf x x (defArgs st) (defBody st) (defScope st) .none kV doc pm an cdv ct) ⟨[], ks.zip ws⟩ = pure (ps.zip (pick pk ws))) : CalW P w KF Ts mg base k x ps ks pk F := by
  obtain ⟨f, kV, doc, pm, cdv, ct, an, h1, h2, h3⟩ := C.ex
  exact ⟨f, _, h1, h2, fun s ws hl => .of_eq (h kV doc pm an cdv ct ws hl), h3⟩
theorem cal_of {P : Program} {w : World} {KF : PySem.W.Frag} {Ts : List (Addr × Str)} {mg : Str → Option Value} {base : Heap} {st : Stmt} {cd : Option Addr} {N ps : List Str} {k : Nat} {wb : Xp → Ws} (D : Dfn KF mg x st cd) (S : FnScope N ps (defScope st))
    (hbody : ∀ (f : Addr) (cdv : Value) (hcd : ∀ c, cd = some c → cdv = .ref c) (A : Around) (outer : List PySem.Env) (s : Shared) (H : Hp) (E : XK) (B : Addr → Prop) (G : Hp) (Ξ : Xp) (lk : Lk KF B G H Ξ (fun cls d _ H' => E cls d H')), Room k (A.deeper (PyProof.Rows.envOfC x (defScope st) s.heap.objs.size f cdv)) → (A.deeper (PyProof.Rows.envOfC x (defScope st) s.heap.objs.size f cdv)).guards = some [] →
      ∃ t, DSs (cxT P w KF Ts mg base N x (defScope st) f cdv A outer s H E B G Ξ lk) T (defBody st) t (wb Ξ)) : CalS P w KF Ts mg base (k + 1) x st ps (mkF T N.length wb) := by
  obtain ⟨f, oc, kV, doc, pm, cdv, ct, od, an, osl, h1, h2, h3, h4, h5⟩ := D.ex
  exact ⟨f, kV, doc, pm, cdv, ct, an, h1, h2, fng_of h3 h4 S (hbody f cdv h5)⟩
/-- never come to -/
def wNever : Ws := fun _ _ => False
theorem ds_never {st : Stmt} : DS X T st tNever wNever := ⟨⟨fun _ _ _ _ _ _ h => h.elim⟩, fun _ _ _ _ _ _ _ _ _ _ q => q.elim⟩
end
end DL
namespace DL
open PySem L2
/-- a constant of the module -/
structure Const (KF : PySem.W.Frag) (mg : Str → Option Value) (x : Str) (d : PD) : Prop where
  ex : ∃ v u, mg x = some u ∧ RelV v u ∧ ∀ G, Rp KF G v d
/-- a constant's reading: its value, whatever stands for it -/
def tK (K : PySem.W.Frag) (d : PD) : TE := fun _ H Q => ∀ v, (∀ G, Rp K G v d) → Q v H
theorem de_const {X : CxT} {x : Str} {d : PD} {pos : Pos} (C : Const X.cx.K X.mg x d) (hg : Gl X x := by rfl) (hd : (x == ("__debug__" : Str)) = false := by decide) : DE X (.Name x pos) (tK X.cx.K d) (wC d) := by
  obtain ⟨v, u, h1, h2, h3⟩ := C.ex
  exact ⟨⟨fun _ _ _ H _ I h => ld_glob I hg h1 ⟨v, H, I, h2, h v h3⟩ hd⟩, fun B G H σ ρ Q QV R q k v' h' => k v' G H ρ _ .refl R (.dat (h' G)) q⟩
end DL

set_option Elab.async false
set_option linter.all false
set_option maxRecDepth 100000
set_option maxHeartbeats 2000000
namespace DL
open PySem L2
section
variable {X : CxT} {K : KT} {T : Nat → Bool} {a b c e : Expr} {ta tb tc te : TE} {wA wB' wC' we : We} {p p2 pos : Pos} {op op' : CmpOp} {r1 r2 : R2} {D1 D2 : DL.D2}
/-! ### a < b < c -/
theorem we_chain (h1 : Ok2 K r1 D1) (h2 : Ok2 K r2 D2) (ha : WE K ta wA) (hb : WE K tb wB') (hc : WE K tc wC') : WE K (tChain r1 r2 ta tb tc) (wChain D1 D2 wA wB' wC') := fun B G H σ ρ Q QV R q k =>
  ha B G H σ ρ _ _ R q fun v G1 H1 ρ1 ra S1 R1 rr1 ⟨c1, q1⟩ => by
    obtain ⟨G1', S1', R1', rr1', cc1, ec1⟩ := rr1.cool R1 c1
    refine hb B G1' H1 σ ρ1 _ _ R1' q1 fun u G2 H2 ρ2 rb S2 R2 rr2 ⟨c2, q2⟩ => ?_
    obtain ⟨G2', S2', R2', rr2', cc2, ec2⟩ := rr2.cool R2 c2
    obtain ⟨x, ex, q2⟩ := ok_some q2
    obtain ⟨y, ey, q2⟩ := ok_some q2
    have vx := (rr1'.stay (H' := H2) (ρ' := ρ2) cc1 (S2.g.trans S2'.g)).vw R2' ((ec1 ρ2).trans ex)
    have vy := rr2'.vw R2' ((ec2 ρ2).trans ey)
    have S := ((S1.trans S1').trans S2).trans S2'
    refine h1 B G2' H2 σ ρ2 v u x y _ _ R2' vx vy q2 fun z G3 H3 rz S3 R3 rr3 q3 => ?_
    match rz, rr3, q3 with
    | .dat (.bl true), .dat (.bl _), q3 =>
      refine ⟨true, rfl, ?_⟩
      rw [if_pos rfl]
      refine hc B G3 H3 σ ρ2 _ _ R3 q3 fun w G4 H4 ρ3 rc S4 R4 rr4 q4 => ?_
      obtain ⟨y', ey', q4⟩ := ok_some q4
      obtain ⟨w', ew', q4⟩ := ok_some q4
      have vy' := (rr2'.stay (H' := H4) (ρ' := ρ3) cc2 (S3.g.trans S4.g)).vw R4 ((ec2 ρ3).trans ey')
      refine h2 B G4 H4 σ ρ3 u w y' w' (fun r => Q r ρ3) _ R4 vy' (rr4.vw R4 ew') q4 fun z' G5 H5 rz' S5 R5 rr5 q5 => ?_
      exact k z' G5 H5 ρ3 rz' (((S.trans S3).trans S4).trans S5) R5 rr5 q5
    | .dat (.bl false), .dat (.bl _), q3 =>
      refine ⟨false, rfl, ?_⟩
      rw [if_neg Bool.false_ne_true]
      exact k _ G3 H3 ρ2 _ (S.trans S3) R3 (.dat (.bl false)) q3
theorem de_chain (h1 : DC X op r1 D1) (h2 : DC X op' r2 D2) (ha : DE X a ta wA) (hb : DE X b tb wB') (hc : DE X c tc wC') (hm : lastMarks [op, op'] [b, c] = false := by with_unfolding_all rfl) : DE X (.Compare a [op, op'] [b, c] pos) (tChain r1 r2 ta tb tc) (wChain D1 D2 wA wB' wC') := ⟨pe_chain h1.op h2.op ha.pe hb.pe hc.pe hm, we_chain h1.ok h2.ok ha.we hb.we hc.we⟩
theorem dt_chain (h1 : DC X op r1 D1) (h2 : DC X op' r2 D2) (ha : DE X a ta wA) (hb : DE X b tb wB') (hc : DE X c tc wC') (hm : lastMarks [op, op'] [b, c] = false := by with_unfolding_all rfl) : DT X (.Compare a [op, op'] [b, c] pos) (tTest (tChain r1 r2 ta tb tc)) (wB (wChain D1 D2 wA wB' wC')) := ⟨pt_chain h1.op h2.op ha.pe hb.pe hc.pe hm, wt_test (we_chain h1.ok h2.ok ha.we hb.we hc.we)⟩
/-! ### isinstance(x, T), T a built-in class -/
def PD.ty : PD → Option String
  | .non => some "NoneType"
  | .bl _ => some "bool"
  | .int _ => some "int"
  | .str _ => some "str"
  | .lst _ => some "list"
  | .scr _ => some "list"
  | .tup _ => some "tuple"
  | .dct _ => some "dict"
  | _ => none
theorem ty_of {G H : Hp} {v : V} {d : PD} {t : String} (e : Ex G H) (h : Vw K G H v d) (ht : d.ty = some t) : TyX K H v (.type t) := by
  cases d with
  | non => cases ht; rw [h.non]; exact .base .non
  | bl b => cases ht; rw [h.bl]; exact .base (.bl b)
  | int i => cases ht; rw [h.int]; exact .base (.int i)
  | str x => cases ht; rw [h.str]; exact .base (.str x)
  | lst xs => cases ht; obtain ⟨q, us, rfl, hq, _⟩ := h.lst e; exact .base (.lst hq)
  | scr ns =>
    cases ht
    obtain ⟨q, rfl, hq⟩ := h.scr e
    rcases hq with (hq | ⟨o, hq⟩) | ⟨o, its, n, hk, hc, _⟩
    · exact .base (.lst hq)
    · exact .base (.frz hq)
    · exact .kList hk hc
  | tup xs =>
    cases ht
    obtain ⟨q, us, rfl, hq, _⟩ := h.tup e
    rcases hq with (hq | ⟨o, hq⟩) | ⟨o, its, n, hk, hc, _⟩
    · exact .base (.tup hq)
    · exact .fTuple hq
    · exact .kTuple hk hc
  | dct kvs =>
    cases ht
    rcases h with h | ⟨q, ho, o, rfl, h1, h2, h3⟩
    · cases h with
      | dct hq _ => exact .base (.dK (e _ _ hq nt_dK))
    · cases h2 with
      | lst => cases h3
      | dK => exact .base (.dK h1)
  | ins => cases ht
  | err => cases ht
  | fn => cases ht
def isa (t T : String) : Bool := t == T || (t == "bool" && T == "int")
def kitsOk (T : String) : Bool := ["NoneType", "bool", "int", "str", "list", "tuple", "dict"].all fun t => decide (kitB t T = some (isa t T))
theorem kit_all {T : String} (h : kitsOk T = true) {d : PD} {t : String} (ht : d.ty = some t) : kitB t T = some (isa t T) := by
  have m : t ∈ ["NoneType", "bool", "int", "str", "list", "tuple", "dict"] := by
    cases d <;> first | (cases ht; done) | (cases ht; simp)
  exact of_decide_eq_true (List.all_eq_true.mp h t m)
def wIsi (T : String) (we : We) : We := fun ρ Q => we ρ fun r ρ1 => warm r ρ1 ∧ look r ρ1 fun d => ok d.ty fun t => Q (.dat (.bl (isa t T))) ρ1
def tIsi (K : PySem.W.Frag) (T : String) (te : TE) : TE := tCB (rIsi K) (tCons te (tCons (tC (.ty T)) tNil))
theorem we_isi {Ty : String} (hk : kitsOk Ty = true) (h : WE K te we) : WE K (tIsi K Ty te) (wIsi Ty we) := fun B G H σ ρ Q QV R q k =>
  h B G H σ ρ _ _ R q fun v G1 H1 ρ1 r S1 R1 rr ⟨_, q1⟩ => by
    obtain ⟨d, ed, q1⟩ := ok_some q1
    obtain ⟨t, et, q1⟩ := ok_some q1
    exact ⟨v, .ty Ty, .type t, .type Ty, _, rfl, .ty Ty, ty_of R1.gh (rr.vw R1 ed) et, kit_ty (kit_all hk et), k _ G1 H1 ρ1 _ S1 R1 (.dat (.bl _)) q1⟩
theorem de_isi {Ty : String} {x : Str} (hk : kitsOk Ty = true) (hm : X.mg "isinstance" = none) (hm2 : X.mg x = none) (hv : bootBuiltins x = some (.type Ty)) (ha : DE X a ta wA) (hg : Gl X "isinstance" := by rfl) (hg2 : Gl X x := by rfl) (hn : x ≠ "__name__" := by decide) (hdb : (x == ("__debug__" : Str)) = false := by decide)
    (hs : starEach (a :: [.Name x p2]) X.env = (false, eval a X.env) :: starEach [.Name x p2] X.env := by rfl) (hpl : (backTo pos (starEach [.Name x p2] X.env)).any (·.1) = false := by rfl) : DE X (.Call (.Name "isinstance" p) [a, .Name x p2] [] pos) (tIsi X.K Ty ta) (wIsi Ty wA) :=
  ⟨pe_callB call_isi hg hm PyProof.Rows.boot_isinstance (pa_cons ha.pe (pa_cons (pe_bltn hg2 hm2 hv rfl hn hdb) pa_nil) hs) (by decide) (by decide) hs hpl, we_isi hk ha.we⟩
/-! ### one test in a comprehension -/
theorem de_lcIf {elt iter cnd tg : Expr} {scope : Scope} {own : List (Str × Nat)} {wi : TI} {wI : Wi} {g : TG} {wg : Wg} {tt : TT} {wt : Wt} (hc : X.calm = true) (hN : X.N.Nodup) (hv : (own.map (·.2)).Nodup) (hi : DI X tg iter wi wI) (okb : BlkOk X.N X.env.scope scope own)
    (hg : ∀ (s : Shared) (H : Hp) (C : Addr) (cl : List (Str × Addr)) (fp : List Addr), DG (X.blk s H scope (compEnvC scope cl C X.env) fp) T0 tg g wg) (ho : GOnly (own.map (·.2)) g)
    (ht : ∀ (s : Shared) (H : Hp) (C : Addr) (cl : List (Str × Addr)) (fp : List Addr), DT (X.blk s H scope (compEnvC scope cl C X.env) fp) cnd tt wt)
    (he : ∀ (s : Shared) (H : Hp) (C : Addr) (cl : List (Str × Addr)) (fp : List Addr), DE (X.blk s H scope (compEnvC scope cl C X.env) fp) elt te we) (hs : ∀ x, foldedSetIterable iter X.env x = pure x := by intro _; rfl) :
    DE X (.ListComp elt [⟨tg, iter, [cnd], 0⟩] scope pos) (tLc wi g tt te (own.map (·.2))) (wLc (own.map (·.2)) wI wg wt we) :=
  de_lc hc hN hv hi okb hg ho (fun s H C cl fp => pts_one (ht s H C cl fp).pt) (ht X.s_0 X.H_0 0 [] []).wt he hs
/-! ### enumerate of a list -/
def enumP (xs : List PD) : List PD := xs.mapIdx fun i x => .tup [.int (i : Nat), x]
theorem fresh_tup {B : Addr → Prop} {G H : Hp} {σ : L2.St} {ρ : Sl} {p : Addr} {xs : List V} {ds : List PD} (R : Rep K B G H σ ρ) (hp : H p = none) (h : RpAll K G xs ds) : ∃ G', Stp B G H G' (upd H p (.tup xs)) ∧ Rep K B G' (upd H p (.tup xs)) σ ρ ∧ Rp K G' (.ref p) (.tup ds) := by
  refine Gv.tup (K := K) (B := B) (G := G) (H := H) (σ := σ) (ρ := ρ) (Q := fun r => r = .dat (.tup ds)) (QV := fun v H' => ∃ G', Stp B G H G' H' ∧ Rep K B G' H' σ ρ ∧ Rp K G' v (.tup ds)) (fun v G' H' r S R' rr q => ?_) R hp h rfl
  subst q
  cases rr with
  | dat z => exact ⟨G', S, R', z⟩
theorem it_enum {G0 : Hp} {q : Addr} {vs : List V} {ds : List PD} (hG : ∀ G H, Ex G0 G → Ex G H → SqL K H q vs) (r : RpAll K G0 vs ds) : ItOk K G0 (Ite K q) (enumP ds) := fun B σ ρ G H e R => by
  have hq := hG G H e R.gh
  have hl : (enumP ds).length = ds.length := by unfold enumP; rw [List.length_mapIdx]
  refine ⟨fun i hi => ⟨vs, hq, by rw [r.length, ← hl]; exact hi⟩, fun i d hd => ?_⟩
  unfold enumP at hd
  rw [List.getElem?_mapIdx] at hd
  cases hx : ds[i]? with
  | none => rw [hx] at hd; cases hd
  | some x =>
    rw [hx] at hd
    cases hd
    obtain ⟨v, hv, rv⟩ := r.get hx
    refine ⟨⟨vs, v, hq, hv⟩, fun y H' ⟨t, w, ey, ht, eH, hw⟩ => ?_⟩
    have := hw vs hq
    rw [hv] at this; cases this
    subst ey; subst eH
    exact fresh_tup R ht (.cons (.int _) (.cons (rv.mono e) .nil))
def wEnum (wa : Wa) : Wi := fun ρ Q => wa ρ fun rs ρ1 => frz rs ρ1 fun ds ρ2 => match ds with
  | [.lst xs] => Q (enumP xs) ρ2
  | [.scr ns] => Q (enumP (ns.map .int)) ρ2
  | _ => False
theorem wi_enum {t : TA} {wa : Wa} (h : WAa K t wa) : WIi K (iEnum K t) (wEnum wa) := fun B G H σ ρ Q QJ R q k =>
  h B G H σ ρ _ _ R q fun vs G1 H1 ρ1 rs S1 R1 rr q1 => by
    obtain ⟨⟨ds, ρ2⟩, e, q1⟩ := ok_some q1
    obtain ⟨G2, S2, R2, ra⟩ := frz_all R1 rr e
    match ds, ra, q1 with
    | [.lst xs], ra, q1 =>
      obtain ⟨w, ew, rw'⟩ := ra.one
      cases ew
      cases rw' with
      | lst hg r => exact ⟨_, _, rfl, SqL.of (R2.gh _ _ hg nt_lst), k _ G2 H1 ρ2 _ (S1.trans S2) R2 (it_enum (fun G' H' e e' => SqL.of (e' _ _ (e _ _ hg nt_lst) nt_lst)) r) q1⟩
    | [.scr ns], ra, q1 =>
      obtain ⟨w, ew, rw'⟩ := ra.one
      cases ew
      cases rw' with
      | scr hg => exact ⟨_, _, rfl, ex_l R2.gh hg, k _ G2 H1 ρ2 _ (S1.trans S2) R2 (it_enum (fun G' H' e e' => ex_l e' (ex_l e hg)) (rp_ints ns)) q1⟩
theorem di_enum {t : TA} {wa : Wa} {elts : List Expr} {kk : Nat} {tpos : Pos} (hm : X.mg "enumerate" = none) (ha : DA X [e] t wa) (hg : Gl X "enumerate" := by rfl) (hs : starEach [e] X.env = [(false, eval e X.env)] := by rfl) :
    DI X (.Tuple elts kk tpos) (.Call (.Name "enumerate" p) [e] [] pos) (iEnum X.K t) (wEnum wa) := ⟨pi_enum hg hm ha.pa hs, wi_enum ha.wa⟩
/-! ### zip of two lists, of two tuples -/
def zipP : List PD → List PD → List PD
  | x :: xs, y :: ys => .tup [x, y] :: zipP xs ys
  | _, _ => []
theorem zipP_get : ∀ {xs ys : List PD} {i : Nat} {d : PD}, (zipP xs ys)[i]? = some d → ∃ x y, xs[i]? = some x ∧ ys[i]? = some y ∧ d = .tup [x, y]
  | [], _, _, _, h => by simp [zipP] at h
  | _ :: _, [], _, _, h => by simp [zipP] at h
  | x :: xs, y :: ys, 0, d, h => by simp [zipP] at h; exact ⟨x, y, rfl, rfl, h.symm⟩
  | x :: xs, y :: ys, i + 1, d, h => by
    have h : (zipP xs ys)[i]? = some d := by simpa [zipP] using h
    obtain ⟨u, v, h1, h2, h3⟩ := zipP_get h
    exact ⟨u, v, by simpa using h1, by simpa using h2, h3⟩
theorem zipP_len : ∀ {xs ys : List PD} {i : Nat}, (zipP xs ys).length ≤ i → xs.length ≤ i ∨ ys.length ≤ i
  | [], _, _, _ => .inl (Nat.zero_le _)
  | _ :: _, [], _, _ => .inr (Nat.zero_le _)
  | x :: xs, y :: ys, 0, h => by simp [zipP] at h
  | x :: xs, y :: ys, i + 1, h => by
    have h : (zipP xs ys).length ≤ i := by simpa [zipP] using h
    rcases zipP_len h with z | z
    · exact .inl (by simpa using z)
    · exact .inr (by simpa using z)
theorem it_zip {G0 : Hp} {q q' : Addr} {vs ws : List V} {ds es : List PD} (hG : ∀ G H, Ex G0 G → Ex G H → SqL K H q vs ∧ SqL K H q' ws) (r : RpAll K G0 vs ds) (r' : RpAll K G0 ws es) : ItOk K G0 (Itz K q q') (zipP ds es) := fun B σ ρ G H e R => by
  obtain ⟨hq, hq'⟩ := hG G H e R.gh
  refine ⟨fun i hi => ⟨vs, ws, hq, hq', by rw [r.length, r'.length]; exact zipP_len hi⟩, fun i d hd => ?_⟩
  obtain ⟨x, y, hx, hy, rfl⟩ := zipP_get hd
  obtain ⟨v, hv, rv⟩ := r.get hx
  obtain ⟨w, hw, rw'⟩ := r'.get hy
  refine ⟨⟨vs, ws, v, w, hq, hq', hv, hw⟩, fun z H' ⟨t, x1, y1, ez, ht, eH, h1, h2⟩ => ?_⟩
  have e1 := h1 vs hq
  have e2 := h2 ws hq'
  rw [hv] at e1; cases e1
  rw [hw] at e2; cases e2
  subst ez; subst eH
  exact fresh_tup R ht (.cons (rv.mono e) (.cons (rw'.mono e) .nil))
end
end DL

set_option Elab.async false
set_option linter.all false
set_option maxRecDepth 100000
set_option maxHeartbeats 2000000
namespace DL
open PySem L2
/-! ### own errors, as values -/
/-- what the written part says of an error class at C, whose maker at fI is the one of its base -/
structure ErrC (K : PySem.W.Frag) (C fI : Addr) : Prop where
  oex : OexC K C
  xf : XfC K C
  no : PySem.W.findIn K (.ref C) "value" = some none
  cl : (PySem.W.clsIn K C).isSome = true
  hc : PySem.W.findIn K (.ref C) "__class__" = some (some (.builtin "object.__class__"))
  hn : PySem.W.specialIn K (.builtin "object.__class__") "__get__" = some (some (.builtin "getset_descriptor.__get__"))
  ht : PySem.W.takesIn K (.builtin "object.__class__") = some true
  hm : PySem.W.mroIn K C (.type "object") = some true
  iC : PySem.W.findIn K (.ref C) "__init__" = some (some (.ref fI))
  tI : PySem.W.typeIn K (.ref fI) = some (.type "function")
/-- the maker: self.value = value -/
def spErr (K : PySem.W.Frag) : Sp := fun vs H Q _ => ∃ (a C : Addr) (v : V), vs = [.ref a, v] ∧ OexC K C ∧ PySem.W.findIn K (.ref C) "value" = some none ∧ H a = some (exo a C none) ∧ ∀ d, H d = none → d ≠ a → Q .non (upd (upd H d (exd d [(("value" : Str), v)])) a (exo a C (some d)))
section
variable {X : CxT} {K : KT} {e : Expr} {te : TE} {we : We} {p pos : Pos} {x : Str} {C D fI : Addr}
theorem exo_inst {P : Program} {w : World} {H : Hp} {h : Heap} {a C d : Addr} {o od' : HO} {fs : List (Str × V)} (hok : HOk P w H h) (e : H a = some o) (ed : H d = some od') (t1 : ErrO a C d o) (t2 : ErrD d fs od') :
    ∃ (oe od : Obj), PySem.W.InstAt h a oe C (some od) ∧ ∀ n v, fs.lookup n = some v → ∃ u, PySem.W.lookIn n od = some (some u) ∧ RelV v u := by
  have h1 : ∃ (oe : Obj) (vs : Array Value), h.get? a = some oe ∧ Zc (.ref C) (some d) oe ∧ oe.data = .fields vs := by
    cases t1 with
    | made => obtain ⟨t, he⟩ := exo_at hok e; exact ⟨_, _, he, ⟨rfl, rfl⟩, rfl⟩
    | had =>
      have x : ObjOk P w H h a (.ext fun h => ∃ (oe : Obj) (vs : Array Value), h.get? a = some oe ∧ Zc (.ref C) (some d) oe ∧ oe.data = .fields vs) := hok a _ e
      exact x.1
  have h2 : ∃ mA, h.Ns1 d mA ∧ ∀ f, RelO (fs.lookup f) (mA f) := by
    cases t2 with
    | made => exact exd_at hok ed
    | had => exact hok d _ ed
  obtain ⟨oe, vs, hoe, ⟨z1, z2⟩, z3⟩ := h1
  obtain ⟨mA, hns, rel⟩ := h2
  obtain ⟨od, ho, hl⟩ := lookIn_ns hns
  refine ⟨_, od, ⟨hoe, z1, by unfold PySem.W.notCls; rw [z3], by rw [z2]; exact ho⟩, fun n v hv => ?_⟩
  obtain ⟨u, hu, ru⟩ := RelO.some_of (v := v) (o := mA n) (by rw [← hv]; exact rel n)
  exact ⟨u, by rw [hl, hu], ru⟩
/-! isinstance -/
def rIsErr (K : PySem.W.Frag) (fI : Addr) (cv : Value) : V → Hp → VK → Prop := fun x H Q => ∃ (a C d : Addr) (o od : HO) (fs : List (Str × V)) (b : Bool), x = .ref a ∧ H a = some o ∧ H d = some od ∧ ErrO a C d o ∧ ErrD d fs od ∧ ErrC K C fI ∧ PySem.W.kitOne K (.ref C) cv = some b ∧ Q (.bl b) H
theorem call_isErr {X : Cx} {cv : Value} {c : V} (hcv : ∀ u, RelV c u → u = cv) : CallR X (.builtin "isinstance") (fun xs H Q => ∃ x, xs = [x, c] ∧ rIsErr X.K fI cv x H Q) := by
  intro pins s σ H xs us Q I r h
  obtain ⟨x, rfl, a, C, d, o, od, fs, b, rfl, ha, hd, t1, t2, T, e, q⟩ := h
  cases r with
  | cons rx rr =>
    cases rr with
    | cons rt rr =>
      cases rr
      cases rx
      have ec := hcv _ rt
      subst ec
      obtain ⟨oe, od, J, _⟩ := exo_inst I.hok ha hd t1 t2
      exact PySem.W.kia_one (PySem.W.kitx_exc T.cl T.xf.ga T.xf.gg T.xf.exC T.hc T.hn T.ht T.hm) I.kIn J e (fun z => nomatch z) fun tk => ⟨.bl b, H, I.kept (t' := tk) fun _ _ z => z, rfl, q⟩
/-! isinstance, a value's class being an own one -/
def wIsE (cl : Nat → Addr) (n : Nat) (kb : Nat → Bool) (we : We) : We := fun ρ Q => we ρ fun r ρ1 => look r ρ1 fun d => match d with
  | .err C _ => ∃ i, i < n ∧ C = cl i ∧ Q (.dat (.bl (kb i))) ρ1
  | _ => False
def tIsE (K : PySem.W.Frag) (fI : Addr) (cv : Value) (c : V) (te : TE) : TE := tCB (fun xs H Q => ∃ x, xs = [x, c] ∧ rIsErr K fI cv x H Q) (tCons te (tCons (tC c) tNil))
theorem we_isE {cl : Nat → Addr} {n : Nat} {kb : Nat → Bool} {cv : Value} {c : V} (hk : ∀ i, i < n → ErrC K (cl i) fI ∧ PySem.W.kitOne K (.ref (cl i)) cv = some (kb i)) (h : WE K te we) : WE K (tIsE K fI cv c te) (wIsE cl n kb we) := fun B G H σ ρ Q QV R q k =>
  h B G H σ ρ _ _ R q fun v G1 H1 ρ1 r S1 R1 rr q1 => by
    obtain ⟨d, ed, q1⟩ := ok_some q1
    cases d with
    | err C u =>
      obtain ⟨i, hi, rfl, q1⟩ := q1
      obtain ⟨T, e⟩ := hk i hi
      rcases rr.vw R1 ed with hv | ⟨p, ho, o, _, _, h2, h3⟩
      · cases hv with
        | err a1 a2 t1 t2 a3 a4 => exact ⟨_, rfl, _, _, _, _, _, _, _, rfl, R1.gh _ _ a1 t1.nt, R1.gh _ _ a2 t2.nt, t1, t2, T, e, k _ G1 H1 ρ1 _ S1 R1 (.dat (.bl _)) q1⟩
      · cases h2 <;> cases h3
    | _ => exact q1.elim
theorem de_isE {cl : Nat → Addr} {n : Nat} {kb : Nat → Bool} {p2 : Pos} {a : Expr} (hm : X.mg "isinstance" = none) (hm2 : X.mg x = some (.ref D)) (hk : ∀ i, i < n → ErrC X.cx.K (cl i) fI ∧ PySem.W.kitOne X.cx.K (.ref (cl i)) (.ref D) = some (kb i)) (ha : DE X a te we) (hg : Gl X "isinstance" := by rfl) (hg2 : Gl X x := by rfl) (hdb : (x == ("__debug__" : Str)) = false := by decide)
    (hs : starEach (a :: [.Name x p2]) X.env = (false, eval a X.env) :: starEach [.Name x p2] X.env := by rfl) (hpl : (backTo pos (starEach [.Name x p2] X.env)).any (·.1) = false := by rfl) : DE X (.Call (.Name "isinstance" p) [a, .Name x p2] [] pos) (tIsE X.cx.K fI (.ref D) (.ref D) te) (wIsE cl n kb we) :=
  ⟨pe_callB (call_isErr (c := .ref D) (fun u h => h)) hg hm PyProof.Rows.boot_isinstance (pa_cons ha.pe (pa_cons (pe_glob hg2 hm2 rfl hdb) pa_nil) hs) (by decide) (by decide) hs hpl, we_isE hk ha.we⟩
theorem de_isEB {Ty : String} {cl : Nat → Addr} {n : Nat} {kb : Nat → Bool} {p2 : Pos} {a : Expr} (hm : X.mg "isinstance" = none) (hm2 : X.mg x = none) (hv : bootBuiltins x = some (.type Ty)) (hk : ∀ i, i < n → ErrC X.cx.K (cl i) fI ∧ PySem.W.kitOne X.cx.K (.ref (cl i)) (.type Ty) = some (kb i)) (ha : DE X a te we) (hg : Gl X "isinstance" := by rfl) (hg2 : Gl X x := by rfl) (hn : x ≠ "__name__" := by decide) (hdb : (x == ("__debug__" : Str)) = false := by decide)
    (hs : starEach (a :: [.Name x p2]) X.env = (false, eval a X.env) :: starEach [.Name x p2] X.env := by rfl) (hpl : (backTo pos (starEach [.Name x p2] X.env)).any (·.1) = false := by rfl) : DE X (.Call (.Name "isinstance" p) [a, .Name x p2] [] pos) (tIsE X.cx.K fI (.type Ty) (.ty Ty) te) (wIsE cl n kb we) :=
  ⟨pe_callB (call_isErr (c := .ty Ty) (fun u h => h)) hg hm PyProof.Rows.boot_isinstance (pa_cons ha.pe (pa_cons (pe_bltn hg2 hm2 hv rfl hn hdb) pa_nil) hs) (by decide) (by decide) hs hpl, we_isE hk ha.we⟩
/-! e.value -/
def tVal (K : PySem.W.Frag) (fI : Addr) (te : TE) : TE := fun σ H Q => te σ H fun x H1 => ∃ (a C d : Addr) (o od : HO) (fs : List (Str × V)) (v : V), x = .ref a ∧ H1 a = some o ∧ H1 d = some od ∧ ErrO a C d o ∧ ErrD d fs od ∧ ErrC K C fI ∧ fs.lookup ("value" : Str) = some v ∧ Q v H1
theorem pe_val (he : PE X e te) (hb : attributeBase e "value" X.env (eval e X.env) = eval e X.env := by rfl) : PE X (.Attribute e "value" pos) (tVal X.cx.K fI te) := by
  refine ⟨fun pins s σ H Q I h => ?_⟩
  refine attr_of hb (thn (he.run pins s σ H _ I h) fun u s1 hh => ?_)
  obtain ⟨x, H1, I1, rx, a, C, d, o, od, fs, v, rfl, ea, ed, t1, t2, T, l, q⟩ := hh
  obtain rfl : u = Value.ref a := rx
  obtain ⟨oe, od, J, hl⟩ := exo_inst I1.hok ea ed t1 t2
  obtain ⟨u, hu, ru⟩ := hl _ _ l
  exact HandSPX.exc_get I1.kIn J T.xf.ga T.xf.gg T.xf.exC (PySem.W.findObj_own T.xf.hdC T.no rfl hu) (handed_of ru) ⟨v, H1, I1.tok _, ru, q⟩
def wVal (cl : Nat → Addr) (n : Nat) (we : We) : We := fun ρ Q => we ρ fun r ρ1 => look r ρ1 fun d => match d with
  | .err C u => (∃ i, i < n ∧ C = cl i) ∧ Q (.dat u) ρ1
  | _ => False
theorem we_val {cl : Nat → Addr} {n : Nat} (hk : ∀ i, i < n → ErrC K (cl i) fI) (h : WE K te we) : WE K (tVal K fI te) (wVal cl n we) := fun B G H σ ρ Q QV R q k =>
  h B G H σ ρ _ _ R q fun v G1 H1 ρ1 r S1 R1 rr q1 => by
    obtain ⟨d, ed, q1⟩ := ok_some q1
    cases d with
    | err C u =>
      obtain ⟨⟨i, hi, rfl⟩, q1⟩ := q1
      rcases rr.vw R1 ed with hv | ⟨p, ho, o, _, _, h2, h3⟩
      · cases hv with
        | err a1 a2 t1 t2 a3 a4 => exact ⟨_, _, _, _, _, _, _, rfl, R1.gh _ _ a1 t1.nt, R1.gh _ _ a2 t2.nt, t1, t2, hk i hi, a3, k _ G1 H1 ρ1 _ S1 R1 (.dat a4) q1⟩
      · cases h2 <;> cases h3
    | _ => exact q1.elim
theorem de_val {cl : Nat → Addr} {n : Nat} (hk : ∀ i, i < n → ErrC X.cx.K (cl i) fI) (ha : DE X e te we) (hb : attributeBase e "value" X.env (eval e X.env) = eval e X.env := by rfl) : DE X (.Attribute e "value" pos) (tVal X.cx.K fI te) (wVal cl n we) := ⟨pe_val ha.pe hb, we_val hk ha.we⟩
/-! C(e) -/
def tMkE (C : Addr) (ta : TA) : TE := fun σ H Q => ta σ H fun vs H1 => ∃ v, vs = [v] ∧ ∀ a d, H1 a = none → H1 d = none → d ≠ a → Q (.ref a) (upd (upd H1 d (exd d [(("value" : Str), v)])) a (exo a C (some d)))
theorem upd_thrice {H : Hp} {a d : Addr} {x y z : HO} (h : d ≠ a) : upd (upd (upd H a x) d y) a z = upd (upd H d y) a z := by
  funext b
  by_cases hb : b = a
  · subst hb; rw [upd_same, upd_same]
  · rw [upd_ne hb, upd_ne hb]
    by_cases hd : b = d
    · subst hd; rw [upd_same, upd_same]
    · rw [upd_ne hd, upd_ne hd, upd_ne hb]
theorem pe_mk {k : Nat} {fd : FuncData} {ta : TA} (T : ErrC X.cx.K C fI) (F1 : FnOk X.prog X.w X.K X.mg X.base L2.CX0 k fI fd ["self", "value"] (spErr X.cx.K)) (hr : Room (k + 1) X.A) (hb : Binds X.K fd ["self", "value"] []) (hm : X.mg x = some (.ref C)) (ha : PA X [e] ta) (hg : Gl X x := by rfl)
    (hdb : (x == ("__debug__" : Str)) = false := by decide) (he : starEach (e :: []) X.env = (false, eval e X.env) :: starEach [] X.env := by rfl) (hpl : (backTo pos (starEach [] X.env)).any (·.1) = false := by rfl) : PE X (.Call (.Name x p) [e] [] pos) (tMkE C ta) := by
  refine ⟨fun pins s σ H Q I h => ?_⟩
  obtain ⟨nm, q, N, bs, bm, sn, sub, ab, col, dd, k0, k1, k2, k3, k5, hC, hbm⟩ := T.oex.cls
  refine wpAny_Call_Name_kw (ld_glob I hg hm ?_ hdb)
  refine PySem.W.callWith_K (h₀ := X.base) I.ok.mod.kin T.oex.kC (thn (ha.run pos pins s σ H _ I h) fun us s1 ⟨vs, H1, I1, r1, v, ev, q1⟩ => ⟨I1.kIn, ?_⟩) he hpl
  subst ev
  show wpAny _ _ (call (.ref C) us) _ _ _
  obtain ⟨hp, g, dr, tk, os⟩ := s1
  have hsz : hp.objs.size ≤ hp.objs.size + 1 := Nat.le_succ _
  have hn : H1 (hp.objs.size + 1) = none := I1.hok.fresh hsz
  have kk : ∀ b o, hp.get? b = some o → ((hp.push (PySem.W.kdv_tup us)).push (PySem.HandSPX.excO C hp.objs.size)).get? b = some o := fun b o e => Heap.get?_push_of_some _ (Heap.get?_push_of_some _ e)
  have hget : ((hp.push (PySem.W.kdv_tup us)).push (PySem.HandSPX.excO C hp.objs.size)).get? (hp.objs.size + 1) = some (PySem.HandSPX.excO C hp.objs.size) := by heap_get
  have I2 : Inv X pins σ (upd H1 (hp.objs.size + 1) (exo (hp.objs.size + 1) C none)) ⟨(hp.push (PySem.W.kdv_tup us)).push (PySem.HandSPX.excO C hp.objs.size), g, dr, tk, os⟩ :=
    I1.laid (t' := tk) (a := hp.objs.size + 1) (o := exo (hp.objs.size + 1) C none) (h' := (hp.push (PySem.W.kdv_tup us)).push (PySem.HandSPX.excO C hp.objs.size)) kk hsz (exo_ok hget)
  have r2 : Vals [V.ref (hp.objs.size + 1), v] (Value.ref (hp.objs.size + 1) :: us) := .cons rfl r1
  have hl1 : us.length = 1 := (Paired.length r1).symm
  have hl : (Value.ref (hp.objs.size + 1) :: us).length = (["self", "value"] : List Str).length := by
    rw [List.length_cons, hl1]; rfl
  have hus : us.length ≤ sizeLine := by
    rw [hl1, sizeLine_eq]
    omega
  have hq : spErr X.cx.K [V.ref (hp.objs.size + 1), v] (upd H1 (hp.objs.size + 1) (exo (hp.objs.size + 1) C none)) (fun u H2 => u = .non ∧ Q (.ref (hp.objs.size + 1)) H2) L2.E0 := by
    refine ⟨_, C, v, rfl, T.oex, T.no, upd_same, fun d hd hda => ⟨rfl, ?_⟩⟩
    rw [upd_ne hda] at hd
    rw [upd_thrice hda]
    exact q1 _ d hn hd hda
  have hb' := hb ⟨(hp.push (PySem.W.kdv_tup us)).push (PySem.HandSPX.excO C hp.objs.size), g, dr, tk, os⟩ (Value.ref (hp.objs.size + 1) :: us) I2.kIn (by rw [List.append_nil]; exact hl)
  rw [List.append_nil] at hb'
  refine wpAny_call (PySem.HandSPX.call_own F.excBase_ValueError (fun Y => PySem.HandSPX.refsVE_contains Y bm hbm) (I1.kIn _ _ hC) (PySem.W.looks_findIn I1.kIn T.iC) (fun self => PySem.W.bind_fn I1.kIn self T.tI) hus
    (codeAny_mono (F1.run _ X.stack _ _ ⟨Value.ref (hp.objs.size + 1) :: us, []⟩ (Value.ref (hp.objs.size + 1) :: us) _ _ L2.E0 (hr.make C us []) (I2.env0.make C us []) hb' r2 hq) fun r s' hq' => ?_))
  match r, hq' with
  | .ok (.ret u), hq' =>
    obtain ⟨v', H', J, rv, ev, q2⟩ := I2.after hq'
    subst ev
    exact ⟨rv, .ref (hp.objs.size + 1), H', J, rfl, q2⟩
  | .ok .next, hq' => exact False.elim hq'
  | .ok .brk, hq' => exact False.elim hq'
  | .ok .cont, hq' => exact False.elim hq'
  | .error e, hq' => exact False.elim hq'
/-- a new thing that does not change -/
theorem rep_add {B : Addr → Prop} {G H : Hp} {σ : L2.St} {ρ : Sl} (R : Rep K B G H σ ρ) {p : Addr} (hp : H p = none) {o : HO} (nt : Nt o) : Stp B G H (upd G p o) (upd H p o) ∧ Rep K B (upd G p o) (upd H p o) σ ρ := by
  have gp : G p = none := R.gh.free R.tb hp
  have nb : ¬ B p := fun z => (R.bh p z).no hp
  have e : Ex G (upd G p o) := Ex.new gp
  have S : Stp B G H (upd G p o) (upd H p o) := ⟨e, fun a ps h => by rw [upd_ne (ne_of_none h gp)]; exact h, fun a ps h => mark_old nt h, fun a u hb h _ => by rw [upd_ne (nb_ne nb hb)]; exact h, fun a _ hb _ _ => upd_ne (nb_ne nb hb)⟩
  refine ⟨S, R.gh.both gp, (R.tb.new hp).mark nt, R.z.step S, fun a hb => ?_, R.len, fun i d hi => ?_, fun i u hi => ?_, R.sep⟩
  · exact (R.bh a hb).upd (nb_ne nb hb)
  · obtain ⟨v, h1, h2⟩ := R.dat i d hi
    exact ⟨v, h1, h2.mono e⟩
  · obtain ⟨q, hq, h1, h2, h3, h4, h5⟩ := R.own i u hi
    have z := ne_of_none h2 hp
    exact ⟨q, hq, h1, by rw [upd_ne z]; exact h2, by rw [upd_ne z]; exact h3, h4, h5.mono e⟩
def wMk (C : Addr) (wa : Wa) : We := fun ρ Q => wa ρ fun rs ρ1 => frz rs ρ1 fun ds ρ2 => match ds with
  | [d] => Q (.dat (.err C d)) ρ2
  | _ => False
theorem we_mk {ta : TA} {wa : Wa} (h : WAa K ta wa) : WE K (tMkE C ta) (wMk C wa) := fun B G H σ ρ Q QV R q k =>
  h B G H σ ρ _ _ R q fun vs G1 H1 ρ1 rs S1 R1 rr q1 => by
    obtain ⟨⟨ds, ρ2⟩, e, q1⟩ := ok_some q1
    obtain ⟨G2, S2, R2, ra⟩ := frz_all R1 rr e
    match ds, ra, q1 with
    | [d], ra, q1 =>
      obtain ⟨v, ev, rv⟩ := ra.one
      refine ⟨v, ev, fun a dd ha hd hda => ?_⟩
      obtain ⟨S3, R3⟩ := rep_add R2 hd (o := exd dd [(("value" : Str), v)]) nt_ext
      obtain ⟨S4, R4⟩ := rep_add R3 (p := a) (by rw [upd_ne (Ne.symm hda)]; exact ha) (o := exo a C (some dd)) nt_ext
      exact k _ _ _ ρ2 _ (((S1.trans S2).trans S3).trans S4) R4 (.dat (.err upd_same (by rw [upd_ne hda]; exact upd_same) .made .made (by simp [List.lookup]) ((rv.mono S3.g).mono S4.g))) q1
/-- an error class that can be called by its name -/
structure Erc (P : Program) (w : World) (K : PySem.W.Frag) (mg : Str → Option Value) (base : Heap) (k : Nat) (x : Str) (C fI : Addr) : Prop where
  ex : ∃ fd, mg x = some (.ref C) ∧ ErrC K C fI ∧ FnOk P w K mg base L2.CX0 k fI fd ["self", "value"] (spErr K) ∧ Binds K fd ["self", "value"] []
theorem de_mk {k : Nat} {ta : TA} {wa : Wa} (E : Erc X.prog X.w X.cx.K X.mg X.base k x C fI) (hr : Room (k + 1) X.A) (ha : DA X [e] ta wa) (hg : Gl X x := by rfl)
    (hdb : (x == ("__debug__" : Str)) = false := by decide) (he : starEach (e :: []) X.env = (false, eval e X.env) :: starEach [] X.env := by rfl) (hpl : (backTo pos (starEach [] X.env)).any (·.1) = false := by rfl) : DE X (.Call (.Name x p) [e] [] pos) (tMkE C ta) (wMk C wa) := by
  obtain ⟨fd, h1, h2, h3, h4⟩ := E.ex
  exact ⟨pe_mk h2 h3 hr h4 h1 ha.pa hg hdb he hpl, we_mk ha.wa⟩
end
end DL

set_option Elab.async false
set_option linter.all false
set_option maxRecDepth 100000
set_option maxHeartbeats 2000000
namespace DL
open PySem L2
section
variable {X : CxT} {K : KT} {e : Expr} {es : List Expr} {te : TE} {t : TA} {we : We} {wa : Wa} {p pos apos cpos : Pos} {x : Str}
/-! ### a call to which a new thing of one's own is handed -/
def wCallO (F : Fd) (Ξ : Xp) (we : We) : We := fun ρ Q => we ρ fun r ρ1 => match r with
  | .own o => F [.own o] (fun r' _ => Q r' ρ1) Ξ
  | _ => False
theorem we_callO {F : Fd} {Ξ : Xp} {W : WX} (lk : Lk K.F K.B0 K.G0 K.H0 Ξ W) (he : WE K te we) : WE K (tCallG K.F K.T 1 F W (tCons te tNil)) (wCallO F Ξ we) := fun B G H σ ρ Q QV R q k =>
  he B G H σ ρ _ _ R q fun v G1 H1 ρ1 r S1 R1 rr q1 => by
    cases rr with
    | dat z => exact q1.elim
    | bor z => exact q1.elim
    | own h1 h2 h3 h4 h5 =>
      rename_i pa ho o
      have BB : ∀ a, B a → Tr H1 a ∧ a ≠ pa := fun a hb => ⟨R1.bh a hb, fun z => h3 (z ▸ hb)⟩
      have R' : Rep (K.at (fun a => Tr H1 a ∧ a ≠ pa) G1 H1) (fun a => Tr H1 a ∧ a ≠ pa) G1 H1 ([V.ref pa].map some) [.own o] := by
        refine ⟨R1.gh, R1.tb, R1.z.new, fun a h => h.1, rfl, fun i d h => ?_, fun i u h => ?_, fun i j u u' q a b c d => ?_⟩
        · match i, h with
          | 0, h => cases h
        · match i, h with
          | 0, h => cases h; exact ⟨pa, ho, rfl, h1, h2, fun z => z.2 rfl, h4⟩
        · match i, j, a, b with
          | 0, 0, _, _ => rfl
      refine ⟨_, G1, [.own o], fun r as => Q r ρ1, Ξ, rfl, R', q1, fun v' G' H' as' r' S' RA rv hf q2 => ?_, lk_call R1.z BB lk⟩
      have slot : ∀ (i : Nat) (u : OD), ρ1[i]? = some (SD.own u) → ∃ q hq, σ[i]? = some (some (V.ref q)) ∧ H1 q = some hq ∧ (Tr H1 q ∧ q ≠ pa) ∧ G1 q = none ∧ ¬ B q ∧ RO K G1 hq u := fun i u hi => by
        obtain ⟨q, hq, w1, w2, w3, w4, w5⟩ := R1.own i u hi
        exact ⟨q, hq, w1, w2, ⟨⟨_, w2, w5.nt⟩, fun z => h5 i u hi (by rw [w1, z])⟩, w3, w4, w5⟩
      have Rb : Rep K B G' H' σ ρ1 := by
        refine ⟨RA.gh, RA.tb, R1.z.step (S'.weak BB), fun a hb => RA.bh a (BB a hb), R1.len, fun i d hi => ?_, fun i u hi => ?_, R1.sep⟩
        · obtain ⟨w, w1, w2⟩ := R1.dat i d hi
          exact ⟨w, w1, w2.mono S'.g⟩
        · obtain ⟨q, hq, w1, w2, hB, w3, w4, w5⟩ := slot i u hi
          exact ⟨q, hq, w1, S'.h q hq hB w2 w5.nt, (S'.n q hq hB w2 w5.ow).trans w3, w4, w5.mono S'.g⟩
      refine k v' G' H' ρ1 r' (S1.trans (S'.weak BB)) Rb ?_ q2
      cases rv with
      | dat z => exact .dat z
      | bor z => cases hf
      | own g1 g2 g3 g4 g5 =>
        refine .own g1 g2 (fun hb => g3 (BB _ hb)) g4 fun i u hi hz => ?_
        obtain ⟨q, hq, w1, w2, hB, w3, w4, w5⟩ := slot i u hi
        rw [hz] at w1; cases w1
        exact g3 hB
/-- .. that raises nothing -/
theorem de_calO {KF : PySem.W.Frag} {Ts : List (Addr × Str)} {k : Nat} {s1 : Str} {F : Fd} (C : Cal X.prog X.w KF Ts X.mg X.base k x [s1] F) (hr : Room k X.A) (hgd : X.A.guards = some []) (ha : DE X e te we) (hK : X.cx.K = KF := by rfl) (hT : X.T = Ts := by rfl) (hg : Gl X x := by rfl) (hdb : (x == ("__debug__" : Str)) = false := by decide) (he : starEach (e :: []) X.env = (false, eval e X.env) :: starEach [] X.env := by rfl) (hpl : (backTo pos (starEach [] X.env)).any (·.1) = false := by rfl) :
    DE X (.Call (.Name x p) [e] [] pos) (tCallG KF Ts 1 F (fun _ _ _ _ => False) (tCons te tNil)) (wCallO F noX we) := by
  subst hK hT
  obtain ⟨f, fd, hm, hk, hb, F0⟩ := C.ex
  refine ⟨⟨fun pins s σ H Q I h => ?_⟩, we_callO (K := X.K) lk_no ha.we⟩
  refine wpAny_Call_Name_kw (ld_glob I hg hm ?_ hdb)
  refine PySem.W.callWith_K (h₀ := X.base) I.ok.mod.kin hk (thn ((pa_cons ha.pe pa_nil he).run pos pins s σ H _ I h) fun us s1 ⟨vs, H1, I1, r, q⟩ => ⟨I1.kIn, ?_⟩) he hpl
  obtain ⟨B, G, as, Q', Ξ, hl, R, hF, hk, hx⟩ := q
  have hb' := hb s1 us I1.kIn (by rw [List.append_nil, ← r.length]; exact hl)
  rw [List.append_nil] at hb'
  refine wpAny_call (codeAny_mono (F0.run X.A X.stack s1 H1 ⟨us, []⟩ us vs B G as Q' Ξ Q (fun _ _ _ => False) hr hgd I1.env0 hb' r hl R hF hk hx) fun r s' hq => ?_)
  match r, hq with
  | .ok (.ret u), hq => exact I1.after hq
  | .ok .next, hq => exact False.elim hq
  | .ok .brk, hq => exact False.elim hq
  | .ok .cont, hq => exact False.elim hq
  | .error e, ⟨_, _, _, _, _, _, _, _, _, _, _, _, z⟩ => exact False.elim z
/-! ### methods of lists that give a number -/
abbrev Dm := PD → List PD → (Rz → Prop) → Prop
def OkM (K : KT) (r : V → List V → Hp → VK → Prop) (D : Dm) : Prop := ∀ (B : Addr → Prop) (G H : Hp) (σ : L2.St) (ρ : Sl) (x : V) (dx : PD) (xs : List V) (ds : List PD) (Q : Rz → Prop) (QV : VK),
  Rep K B G H σ ρ → Vw K G H x dx → VwAll K G H xs ds → D dx ds Q → Gv K B G H σ ρ Q QV → r x xs H QV
def wM (D : Dm) (we : We) (wa : Wa) : We := fun ρ Q => we ρ fun r ρ1 => ok (r.pd ρ1) fun d => (∃ xs, d = .lst xs) ∧ wa ρ1 fun rs ρ2 => look r ρ2 fun d' => looks rs ρ2 fun ds => D d' ds fun r' => Q r' ρ2
theorem we_m {r : V → List V → Hp → VK → Prop} {D : Dm} (h : OkM K r D) (he : WE K te we) (ha : WAa K t wa) : WE K (tBM K "list" r te t) (wM D we wa) := fun B G H σ ρ Q QV R q k =>
  he B G H σ ρ _ _ R q fun v G1 H1 ρ1 ra S1 R1 rr1 q1 => by
    obtain ⟨d, ed, ⟨xs, hxs⟩, q1⟩ := ok_some q1
    obtain ⟨G1', S1', R1', rr1', cc, ec⟩ := rr1.cool R1 (.inr ⟨d, ed⟩)
    subst hxs
    obtain ⟨a, us, rfl, hp, _⟩ := (rr1'.vw R1' ((ec ρ1).trans ed)).lst R1'.gh
    refine ⟨Or.inl ⟨rfl, _, SqL.of hp⟩, ?_⟩
    refine ha B G1' H1 σ ρ1 _ _ R1' q1 fun vs G2 H2 ρ2 rs S2 R2 rr2 q2 => ?_
    obtain ⟨x, ex, q2⟩ := ok_some q2
    obtain ⟨ds, eds, q2⟩ := ok_some q2
    exact h B G2 H2 σ ρ2 _ x vs ds (fun r => Q r ρ2) QV R2 ((rr1'.stay cc S2.g).vw R2 ((ec ρ2).trans ex)) (rr2.vw R2 eds) q2 fun w G3 H3 res S3 R3 rr3 q3 => k w G3 H3 ρ2 res (((S1.trans S1').trans S2).trans S3) R3 rr3 q3
def dIndex : Dm := fun d ds k => match d, ds with
  | .lst ys, [y] => y.flat = true ∧ ys.all PD.flat = true ∧ ok (ys.findIdx? fun z => PyData.eqv z.py y.py) fun j => k (.dat (.int (j : Nat)))
  | _, _ => False
theorem okm_index : OkM K (rIndex K) dIndex := by
  intro B G H σ ρ x dx xs ds Q QV R vx vs q k
  match dx, ds, vs, q with
  | .lst ys, [y], .cons vy .nil, ⟨fy, fys, q⟩ =>
    obtain ⟨j, ej, q⟩ := ok_some q
    obtain ⟨a, us, rfl, hp, rs⟩ := vx.lst R.gh
    have ry := flat_vw vy fy
    obtain ⟨hl, hb, hno⟩ := List.findIdx?_eq_some_iff_getElem.mp ej
    have flatAt : ∀ {m : Nat} {d : PD}, ys[m]? = some d → d.flat = true := fun {m d} h => List.all_eq_true.mp fys d (List.mem_of_getElem? h)
    obtain ⟨z, hz, rz⟩ := rs.get (List.getElem?_eq_getElem hl)
    refine ⟨a, us, _, j, z, rfl, rfl, SqL.of hp, flat_of ry fy, flats_of rs fys, hz, by rw [eqV_py rz ry (flatAt (List.getElem?_eq_getElem hl)) fy]; exact hb, fun m z' hm hz' => ?_, k.dat R (.int _) q⟩
    have hml : m < ys.length := Nat.lt_trans hm hl
    obtain ⟨z2, hz2, rz2⟩ := rs.get (List.getElem?_eq_getElem hml)
    rw [hz'] at hz2; cases hz2
    rw [eqV_py rz2 ry (flatAt (List.getElem?_eq_getElem hml)) fy]
    have := hno m hm
    simpa using this
/-- count, of bools -/
def rCountB : V → List V → Hp → VK → Prop := fun x xs H Q => ∃ (a : Addr) (bs : List Bool) (b : Bool), x = .ref a ∧ xs = [.bl b] ∧ H a = some (.lst (bs.map V.bl)) ∧ Q (.int (PySem.Spec.countIn (.bool b) (bs.map PyData.bool))) H
theorem vals_bools {h : Heap} : ∀ {bs : List Bool} {us : List Value}, Vals (bs.map V.bl) us → ∃ as, ReadsAll h us (bs.map PyData.bool) as
  | [], _, .nil => ⟨_, .nil⟩
  | b :: bs, _, .cons r rs => by
    obtain ⟨as, ra⟩ := vals_bools (h := h) rs
    cases (show _ = Value.bool b from r)
    exact ⟨_, .cons (.bool b) ra⟩
theorem mt_countB : MtR X "list.count" rCountB := by
  intro pins s σ H x xs v us Q I rx rxs h
  obtain ⟨a, bs, b, rfl, rfl, ha, q⟩ := h
  cases rx
  cases rxs with
  | cons ry rt =>
    cases rt
    cases ry
    obtain ⟨its, rv, hl, hlen⟩ := I.list (SqL.of ha)
    obtain ⟨as, ra⟩ := vals_bools (h := s.heap) rv
    exact PyProof.Rows.count_list_bools hl.isList ra (List.all_eq_true.mpr fun d hd => by obtain ⟨b', _, rfl⟩ := List.mem_map.mp hd; rfl) ⟨.int _, H, I.tok _, ⟨_, rfl⟩, q⟩
def boolsOf : List PD → Option (List Bool)
  | [] => some []
  | .bl b :: r => (boolsOf r).map (b :: ·)
  | _ :: _ => none
def dCountB : Dm := fun d ds k => match d, ds with
  | .lst ys, [.bl b] => ok (boolsOf ys) fun bs => k (.dat (.int (PySem.Spec.countIn (.bool b) (bs.map PyData.bool))))
  | _, _ => False
theorem bools_v {G : Hp} : ∀ {ys : List PD} {us : List V} {bs : List Bool}, RpAll K G us ys → boolsOf ys = some bs → us = bs.map V.bl
  | [], _, bs, .nil, h => by cases h; rfl
  | d :: ys, _, bs, .cons r rs, h => by
    cases d with
    | bl b =>
      unfold boolsOf at h
      cases hq : boolsOf ys with
      | none => rw [hq] at h; cases h
      | some bs' =>
        rw [hq] at h
        cases h
        cases r
        rw [List.map_cons, bools_v rs hq]
    | _ => unfold boolsOf at h; cases h
theorem okm_countB : OkM K rCountB dCountB := by
  intro B G H σ ρ x dx xs ds Q QV R vx vs q k
  match dx, ds, vs, q with
  | .lst ys, [.bl b], .cons vy .nil, q =>
    obtain ⟨bs, eb, q⟩ := ok_some q
    obtain ⟨a, us, rfl, hp, rs⟩ := vx.lst R.gh
    rw [bools_v rs eb] at hp
    exact ⟨a, bs, b, rfl, by rw [vy.bl], hp, k.dat R (.int _) q⟩
section
variable (hfew : Prop)
theorem de_index {o : Expr} {to : TE} {wo : We} (ho : DE X o to wo) (h : DA X (e :: es) t wa) (hbase : attributeBase o "index" X.env (eval o X.env) = eval o X.env := by rfl)
    (hfew : ((backTo cpos (starEach (e :: es) X.env)).all (fun x => !x.1) && (backToKw cpos (keywordEach [] X.env)).all (fun x => x.1.isSome) && decide ((e :: es).length + ([] : List Keyword).length + (if ([] : List Keyword).isEmpty then 0 else 1) < 30)) = true := by rfl)
    (hline : (apos.endLine == cpos.line) = true := by rfl) (hs : starEach (e :: es) X.env = (false, eval e X.env) :: starEach es X.env := by rfl) (hplain : (backTo cpos (starEach es X.env)).any (·.1) = false := by rfl) :
    DE X (.Call (.Attribute o "index" apos) (e :: es) [] cpos) (tBM X.K "list" (rIndex X.K) to t) (wM dIndex wo wa) := ⟨pe_bm PySem.F.plainAttrs_list PySem.F.slot_list_index PySem.F.type_list_index mt_index ho.pe h.pa hbase hfew hline hs hplain, we_m okm_index ho.we h.wa⟩
theorem de_countB {o : Expr} {to : TE} {wo : We} (ho : DE X o to wo) (h : DA X (e :: es) t wa) (hbase : attributeBase o "count" X.env (eval o X.env) = eval o X.env := by rfl)
    (hfew : ((backTo cpos (starEach (e :: es) X.env)).all (fun x => !x.1) && (backToKw cpos (keywordEach [] X.env)).all (fun x => x.1.isSome) && decide ((e :: es).length + ([] : List Keyword).length + (if ([] : List Keyword).isEmpty then 0 else 1) < 30)) = true := by rfl)
    (hline : (apos.endLine == cpos.line) = true := by rfl) (hs : starEach (e :: es) X.env = (false, eval e X.env) :: starEach es X.env := by rfl) (hplain : (backTo cpos (starEach es X.env)).any (·.1) = false := by rfl) :
    DE X (.Call (.Attribute o "count" apos) (e :: es) [] cpos) (tBM X.K "list" rCountB to t) (wM dCountB wo wa) := ⟨pe_bm PySem.F.plainAttrs_list PySem.F.slot_list_count PySem.F.type_list_count mt_countB ho.pe h.pa hbase hfew hline hs hplain, we_m okm_countB ho.we h.wa⟩
end
/-! ### dicts: none, and of one pair -/
def wDnew : We := fun ρ Q => Q (.own (.dK [])) ρ
theorem de_dnew : DE X (.Dict [] [] pos) tDNewK wDnew := ⟨pe_dnewK, fun B G H σ ρ Q QV R q k n hn =>
  Gv.new (K := X.K) (Q := fun r => Q r ρ) (fun v G' H' r S3 R3 rr3 q3 => k v G' H' ρ r S3 R3 rr3 q3) R hn (.dK .nil) q⟩
theorem upd_twice {H : Hp} {a : Addr} {x y : HO} : upd (upd H a x) a y = upd H a y := by
  funext b
  by_cases hb : b = a
  · subst hb; rw [upd_same, upd_same]
  · rw [upd_ne hb, upd_ne hb, upd_ne hb]
def wD1 (k : Str) (i : Int) : We := fun ρ Q => Q (.own (.dK [(Sum.inr k, .int i)])) ρ
theorem de_d1 {k : Str} {i : Int} {j1 j2 : Nat} {p1 p2 : Pos} : DE X (.Dict [some (.Constant (.str k) j1 p1)] [.Constant (.int i) j2 p2] pos) (tDisp [(tC (.str k), tC (.int i))]) (wD1 k i) :=
  ⟨pe_disp (pps_cons pe_str pe_int pps_nil) rfl rfl (by simp) (by show 1 ≤ 15; decide), fun B G H σ ρ Q QV R q kk n hn => by
    refine ⟨upd_same, [(Sum.inr k, .int i)], rfl, by show 1 ≤ 15; decide, ?_⟩
    rw [upd_twice]
    exact Gv.new (K := X.K) (Q := fun r => Q r ρ) (fun v G' H' r S3 R3 rr3 q3 => kk v G' H' ρ r S3 R3 rr3 q3) R hn (.dK (.cons (.int i) .nil)) q⟩
def small1 (ks : List (Key × PD)) : Prop := ks = [] ∨ ∃ k i, ks = [(k, .int i)]
theorem Vw.dct1 {G H : Hp} {v : V} {ks : List (Key × PD)} (e : Ex G H) (h : Vw K G H v (.dct ks)) (s : small1 ks) : (ks = [] ∧ ∃ a, v = .ref a ∧ H a = some (.dK [])) ∨ ∃ k i, ks = [(k, .int i)] ∧ ∃ a, v = .ref a ∧ H a = some (.dK [(k, .int i)]) := by
  have go : ∃ a vs, v = .ref a ∧ H a = some (.dK vs) ∧ RpKv K G vs ks := by
    rcases h with h | ⟨q, ho, o, rfl, h1, h2, h3⟩
    · cases h with
      | dct hq r => exact ⟨_, _, rfl, e _ _ hq nt_dK, r⟩
    · cases h2 with
      | lst => cases h3
      | dK r => cases h3; exact ⟨_, _, rfl, h1, r⟩
  obtain ⟨a, vs, rfl, ha, r⟩ := go
  rcases s with rfl | ⟨k, i, rfl⟩
  · cases r; exact .inl ⟨rfl, a, rfl, ha⟩
  · cases r with
    | cons r1 r2 => cases r2; cases r1; exact .inr ⟨k, i, rfl, a, rfl, ha⟩
def dNeX : D2 := fun x y k => match x, y with
  | .dct ks, .dct ls => small1 ks ∧ ls = ks ∧ k (.dat (.bl false))
  | x, y => dNe x y k
theorem ok2_neX : Ok2 K (rOr rNeDA (rNeD K)) dNeX := by
  intro B G H σ ρ x y dx dy Q QV R vx vy q k
  by_cases hd : ∃ ks ls, dx = .dct ks ∧ dy = .dct ls
  · obtain ⟨ks, ls, rfl, rfl⟩ := hd
    obtain ⟨sm, rfl, q⟩ := q
    left
    rcases vx.dct1 R.gh sm with ⟨rfl, a, rfl, ha⟩ | ⟨c, i, rfl, a, rfl, ha⟩
    · rcases vy.dct1 R.gh sm with ⟨_, b, rfl, hb⟩ | ⟨_, _, z, _⟩
      · exact ⟨a, b, [], [], rfl, rfl, ha, hb, rfl, (fun p hp => nomatch hp), k.dat R (.bl _) q⟩
      · cases z
    · rcases vy.dct1 R.gh sm with ⟨z, _⟩ | ⟨c', i', z, b, rfl, hb⟩
      · cases z
      · cases z
        exact ⟨a, b, _, _, rfl, rfl, ha, hb, rfl, (fun p hp => by
          have : p = (c, V.int i) := by simpa using hp
          subst this
          exact ⟨by simp [valV], rfl⟩), k.dat R (.bl _) q⟩
  · right
    refine ok2_ne B G H σ ρ x y dx dy Q QV R vx vy ?_ k
    unfold dNeX at q
    split at q
    · exact absurd ⟨_, _, rfl, rfl⟩ hd
    · exact q
theorem dc_neX (hu : X.cx.A.units + 64 < cLine) : DC X .NotEq (rOr rNeDA (rNeD X.K)) dNeX := ⟨or_ok (op_ne_dictA (by omega)) (op_neD hu), ok2_neX⟩
/-! ### repr, of such dicts too -/
def d1py : List (Key × PD) → PyData
  | [(.inr k, .int i)] => .dict [(.str k, .int i)]
  | _ => .dict []
def rReprD1 : List V → Hp → VK → Prop := fun xs H Q => ∃ (a : Addr) (vs : List (Key × V)) (d : PyData), xs = [.ref a] ∧ H a = some (.dK vs) ∧ ((vs = [] ∧ d = .dict []) ∨ ∃ k i, vs = [(Sum.inr k, .int i)] ∧ d = .dict [(.str k, .int i)]) ∧ d.showable = true ∧ d.depth ≤ 64 ∧ d.shown.length ≤ sizeLine ∧ Q (.str d.shown) H
theorem call_reprD1 (hg : X.A.guards = some []) (hu : X.cx.A.units + 66 < cLine) : CallR X (.builtin "repr") rReprD1 := by
  intro pins s σ H xs us Q I r h
  obtain ⟨a, vs, d, rfl, ha, hv, s1, s2, s3, q⟩ := h
  rw [Vals.ref1 r]
  obtain ⟨hz, hsys, ws, kv, o, es, ep, ho, hex, hdat, hks, hpr, hnd⟩ := dk_of I.hok ha
  have rd : ∃ as, Reads s.heap (.ref a) d as ∧ sysModules ∉ as := by
    rcases hv with ⟨rfl, rfl⟩ | ⟨k, i, rfl, rfl⟩
    · cases kv
      generalize hes : es.toList = el at hpr
      cases hpr
      exact ⟨_, .dict (kvs := []) ho hex.1 hdat (by rw [hes]; exact .nil) (by rw [hes]; exact .nil), by
        have : (a == sysModules) = false := hsys
        simp at this
        simp
        exact fun z => this z.symm⟩
    · cases kv with
      | cons k1 k2 =>
        cases k2
        generalize hes : es.toList = el at hpr
        cases hpr with
        | cons p1 p2 p3 =>
          cases p3
          rename_i q0 e0
          obtain ⟨k1a, k1b⟩ := k1
          obtain ⟨tv, etv⟩ : ∃ t, q0.2 = Value.int i t := k1b
          rcases keyIs_shape p1 with ⟨i', t', z, _⟩ | ⟨x', t', z, ek⟩
          · rw [← k1a] at z; cases z
          · rw [← k1a] at z; cases z
            refine ⟨_, .dict (kvs := [(.str k, .int i)]) ho hex.1 hdat (as := [] ++ []) (bs := [] ++ []) (by rw [hes]; show ReadsAll _ [e0.key] [.str k] _; rw [ek]; exact .cons (.str k t') .nil) (by rw [hes]; show ReadsAll _ [e0.val] [.int i] _; rw [p2, etv]; exact .cons (.int i tv) .nil), ?_⟩
            have : (a == sysModules) = false := hsys
            simp at this
            simp
            exact fun z => this z.symm
  obtain ⟨as, rd, hsm⟩ := rd
  exact repr_of_reads' rd s1 (fun _ => hsm) hg (by omega) (fun _ _ z => z) (fun h' tu tk kk => ⟨.str _, H, I.kept kk, ⟨_, rfl⟩, q⟩) s3
def dReprX : Dn := fun ds k => match ds with
  | [.dct ks] => (ks = [] ∨ ∃ c i, ks = [(Sum.inr c, .int i)]) ∧ (d1py ks).showable = true ∧ (d1py ks).depth ≤ 64 ∧ (d1py ks).shown.length ≤ sizeLine ∧ k (.dat (.str (d1py ks).shown))
  | ds => dRepr ds k
theorem db_reprX (hg : X.A.guards = some []) (hu : X.cx.A.units + 66 < cLine) : DB X (.builtin "repr") (fun xs H Q => rReprD1 xs H Q ∨ rRepr X.K xs H Q) dReprX := by
  refine ⟨CallR.orr (call_reprD1 hg hu) (call_repr hg hu), fun B G H σ ρ xs ds Q QV R hv q k => ?_⟩
  by_cases hd : ∃ ks, ds = [.dct ks]
  · obtain ⟨ks, rfl⟩ := hd
    obtain ⟨sm, s1, s2, s3, q⟩ := q
    cases hv with
    | cons v r =>
      cases r
      left
      rcases sm with rfl | ⟨c, i, rfl⟩
      · rcases v.dct1 R.gh (.inl rfl) with ⟨_, a, rfl, ha⟩ | ⟨_, _, z, _⟩
        · exact ⟨a, _, _, rfl, ha, .inl ⟨rfl, rfl⟩, s1, s2, s3, k.dat R (.str _) q⟩
        · cases z
      · rcases v.dct1 R.gh (.inr ⟨_, _, rfl⟩) with ⟨z, _⟩ | ⟨_, _, z, a, rfl, ha⟩
        · cases z
        · cases z
          exact ⟨a, _, _, rfl, ha, .inr ⟨_, _, rfl, rfl⟩, s1, s2, s3, k.dat R (.str _) q⟩
  · right
    refine (db_repr hg hu).ok B G H σ ρ xs ds Q QV R hv ?_ k
    unfold dReprX at q
    split at q
    · exact absurd ⟨_, rfl⟩ hd
    · exact q
end
end DL

set_option Elab.async false
set_option linter.all false
set_option maxRecDepth 100000
set_option maxHeartbeats 2000000
namespace DL
open PySem L2
/-! ### what the written part says of the errors, as one answer -/
def errCls (K : PySem.W.Frag) (C : Addr) : Bool := match K.lookup C with
  | some ⟨.type "type", _, .cls cd, sl⟩ => (match cd.mro, sl.toList with
    | .ref C' :: bm, [_, _, _, _, some (.builtin n), _] => C' == C && (n == "ValueError.__new__" && (!cd.hasDel && (cd.hasDict && PySem.HandSPX.refsVE bm)))
    | _, _ => false)
  | _ => false
theorem errCls_ok {K : PySem.W.Frag} {C : Addr} (q : errCls K C = true) : ∃ nm q N bs bm sn sub ab col dd k0 k1 k2 k3 k5, K.lookup C = some (excClassObj nm q C N bs bm true sn sub ab col dd k0 k1 k2 k3 k5 "ValueError.__new__") ∧ PySem.HandSPX.refsVE bm = true := by
  unfold errCls at q
  split at q
  · rename_i dd cd sl ho
    split at q
    · rename_i C' bm k0 k1 k2 k3 n k5 hm hs
      simp only [Bool.and_eq_true, beq_iff_eq, Bool.not_eq_true'] at q
      obtain ⟨rfl, rfl, hdel, hdict, hbm⟩ := q
      obtain ⟨nm, bs, mro, ns, qn, hd, sn, sub, ab, col, del⟩ := cd
      dsimp only at hm hdel hdict
      subst hm hdel hdict
      have hsl : sl = #[k0, k1, k2, k3, some (.builtin "ValueError.__new__"), k5] := by
        obtain ⟨l⟩ := sl
        simp only at hs
        rw [hs]
      subst hsl
      exact ⟨nm, qn, ns, bs, bm, sn, sub, ab, col, dd, k0, k1, k2, k3, k5, ho, hbm⟩
    · cases q
  · cases q
def errB (K : PySem.W.Frag) (fI C : Addr) : Bool := errCls K C && (decide (PySem.W.findIn K (.ref C) "__setattr__" = some (some (.builtin "object.__setattr__"))) && (decide (PySem.W.typeIn K (.ref C) = some (.type "type")) && (PySem.W.keepIn K (.ref C) && (xfB K C &&
  (decide (PySem.W.findIn K (.ref C) "value" = some none) && ((PySem.W.clsIn K C).isSome && (decide (PySem.W.findIn K (.ref C) "__class__" = some (some (.builtin "object.__class__"))) && (decide (PySem.W.mroIn K C (.type "object") = some true) && decide (PySem.W.findIn K (.ref C) "__init__" = some (some (.ref fI)))))))))))
def errG (K : PySem.W.Frag) (fI : Addr) : Bool := decide (PySem.W.specialIn K (.builtin "object.__class__") "__get__" = some (some (.builtin "getset_descriptor.__get__"))) && (decide (PySem.W.takesIn K (.builtin "object.__class__") = some true) && decide (PySem.W.typeIn K (.ref fI) = some (.type "function")))
theorem errB_ok {K : PySem.W.Frag} {fI C : Addr} (h : errB K fI C = true) (g : errG K fI = true) : ErrC K C fI := by
  obtain ⟨h1, h⟩ := Bool.and_eq_true_iff.mp h
  obtain ⟨h2, h⟩ := Bool.and_eq_true_iff.mp h
  obtain ⟨h3, h⟩ := Bool.and_eq_true_iff.mp h
  obtain ⟨h4, h⟩ := Bool.and_eq_true_iff.mp h
  obtain ⟨h5, h⟩ := Bool.and_eq_true_iff.mp h
  obtain ⟨h6, h⟩ := Bool.and_eq_true_iff.mp h
  obtain ⟨h7, h⟩ := Bool.and_eq_true_iff.mp h
  obtain ⟨h8, h⟩ := Bool.and_eq_true_iff.mp h
  obtain ⟨h9, h10⟩ := Bool.and_eq_true_iff.mp h
  obtain ⟨g1, g⟩ := Bool.and_eq_true_iff.mp g
  obtain ⟨g2, g3⟩ := Bool.and_eq_true_iff.mp g
  have x := xfB_ok h5
  exact { oex := ⟨errCls_ok h1, of_decide_eq_true h2, x.exC, of_decide_eq_true h3, h4⟩, xf := x, no := of_decide_eq_true h6, cl := h7, hc := of_decide_eq_true h8, hn := of_decide_eq_true g1, ht := of_decide_eq_true g2, hm := of_decide_eq_true h9, iC := of_decide_eq_true h10, tI := of_decide_eq_true g3 }
/-- all classes Cs, the last one being the base of the others -/
def errsB (K : PySem.W.Frag) (Cs : List Addr) (fI : Addr) (kb : Nat → Nat → Bool) : Bool := errG K fI && (Cs.all (errB K fI) && ((List.range Cs.length).all fun i => decide (PySem.W.kitOne K (.ref (Cs.getD i 0)) (.type "ValueError") = some true) && (List.range Cs.length).all fun j => decide (PySem.W.kitOne K (.ref (Cs.getD i 0)) (.ref (Cs.getD j 0)) = some (kb j i))))
theorem errsB_ok {K : PySem.W.Frag} {Cs : List Addr} {fI : Addr} {kb : Nat → Nat → Bool} (h : errsB K Cs fI kb = true) :
    (∀ i, i < Cs.length → ErrC K (Cs.getD i 0) fI) ∧ (∀ j, j < Cs.length → ∀ i, i < Cs.length → PySem.W.kitOne K (.ref (Cs.getD i 0)) (.ref (Cs.getD j 0)) = some (kb j i)) ∧ ∀ i, i < Cs.length → PySem.W.kitOne K (.ref (Cs.getD i 0)) (.type "ValueError") = some true := by
  obtain ⟨h0, h⟩ := Bool.and_eq_true_iff.mp h
  obtain ⟨h1, h2⟩ := Bool.and_eq_true_iff.mp h
  have a : ∀ i, i < Cs.length → _ := fun i hi => Bool.and_eq_true_iff.mp (List.all_eq_true.mp h2 i (List.mem_range.mpr hi))
  refine ⟨fun i hi => errB_ok (List.all_eq_true.mp h1 _ ?_) h0, fun j hj i hi => of_decide_eq_true (List.all_eq_true.mp (a i hi).2 j (List.mem_range.mpr hj)), fun i hi => of_decide_eq_true (a i hi).1⟩
  rw [List.getD_eq_getElem?_getD, List.getElem?_eq_getElem hi]
  exact List.getElem_mem hi
end DL

set_option Elab.async false
set_option linter.all false
set_option maxRecDepth 100000
set_option maxHeartbeats 2000000
namespace DL
open PySem L2
section
variable {X : CxT} {K : KT} {T : Nat → Bool} {e : Expr} {te tt' : TE} {t : TA} {we : We} {wa : Wa} {pos p p2 pos' tpos : Pos} {x : Str}
/-! ### x = [comprehension] -/
theorem ds_setLcF {elt tg iter : Expr} {i : Nat} {y : Str} {py spos : Pos} {scope : Scope} {own : List (Str × Nat)} {ifs : List Expr} {wi : TI} {wI : Wi} {g : TG} {wg : Wg} {tt : TT} {wt : Wt} (hT : T i = false) (hc : X.calm = true) (hN : X.N.Nodup) (hy : X.N[i]? = some y) (hyl : X.env.scope.names.lookup y = some .local)
    (hsw : swapsWith (.ListComp elt [⟨tg, iter, ifs, 0⟩] scope pos) (some (.Name y py)) spos.line X.env = pure true) (hv : (own.map (·.2)).Nodup) (hi : DI X tg iter wi wI) (okb : BlkOk X.N X.env.scope scope own)
    (hg : ∀ (s : Shared) (H : Hp) (C : Addr) (cl : List (Str × Addr)) (fp : List Addr), DG (X.blk s H scope (compEnvC scope cl C X.env) fp) T0 tg g wg) (ho : GOnly (own.map (·.2)) g)
    (ht : ∀ (s : Shared) (H : Hp) (C : Addr) (cl : List (Str × Addr)) (fp : List Addr), PTs (X.blk s H scope (compEnvC scope cl C X.env) fp) ifs tt) (hw : WTt X.K tt wt)
    (he : ∀ (s : Shared) (H : Hp) (C : Addr) (cl : List (Str × Addr)) (fp : List Addr), DE (X.blk s H scope (compEnvC scope cl C X.env) fp) elt te we) (hs : ∀ x, foldedSetIterable iter X.env x = pure x := by intro _; rfl) :
    DS X T (.Assign [.Name y py] (.ListComp elt [⟨tg, iter, ifs, 0⟩] scope pos) spos) (tAsg (tLc wi g tt te (own.map (·.2))) (gName i)) (wSetF i (wLc (own.map (·.2)) wI wg wt we)) :=
  ⟨ps_setLc hc hN hy hyl hsw hi.pi okb (fun s H C cl fp => (hg s H C cl fp).pg) ht (fun s H C cl fp => (he s H C cl fp).pe) hs, ws_setF hT (we_lc hv hi.wi (hg X.s_0 X.H_0 0 [] []).wg ho hw (he X.s_0 X.H_0 0 [] []).we)⟩
/-! ### max, min of a list of ints -/
def dMaxL : Dn := fun ds k => match ds with
  | [.lst xs] => ok (intsOf xs) fun ns => 0 < ns.length ∧ ∀ m, m ∈ ns → (∀ y, y ∈ ns → y ≤ m) → k (.dat (.int m))
  | _ => False
def dMinL : Dn := fun ds k => match ds with
  | [.lst xs] => ok (intsOf xs) fun ns => 0 < ns.length ∧ ∀ m, m ∈ ns → (∀ y, y ∈ ns → m ≤ y) → k (.dat (.int m))
  | _ => False
theorem db_maxL (hc : X.calm = true) : DB X (.builtin "max") (rMax X.K) dMaxL := by
  refine ⟨cr_max hc, fun B G H σ ρ xs ds Q QV R hv q k => ?_⟩
  match ds, hv, q with
  | [.lst ys], .cons h .nil, q =>
    obtain ⟨ns, e, h0, q⟩ := ok_some q
    obtain ⟨a, us, rfl, ha, ra⟩ := h.lst R.gh
    rw [intsOf_eq e] at ra
    rw [ra.ints] at ha
    exact ⟨a, ns, rfl, SqL.of ha, h0, fun m h1 h2 => k.dat R (.int m) (q m h1 h2)⟩
theorem db_minL (hc : X.calm = true) : DB X (.builtin "min") (rMin X.K) dMinL := by
  refine ⟨cr_min hc, fun B G H σ ρ xs ds Q QV R hv q k => ?_⟩
  match ds, hv, q with
  | [.lst ys], .cons h .nil, q =>
    obtain ⟨ns, e, h0, q⟩ := ok_some q
    obtain ⟨a, us, rfl, ha, ra⟩ := h.lst R.gh
    rw [intsOf_eq e] at ra
    rw [ra.ints] at ha
    exact ⟨a, ns, rfl, SqL.of ha, h0, fun m h1 h2 => k.dat R (.int m) (q m h1 h2)⟩
/-! ### dicts of one's own, by ints and texts -/
def PD.key : PD → Option Key
  | .int i => some (.inl i)
  | .str x => some (.inr x)
  | _ => none
def ownD (i : Nat) (ρ : Sl) (k : List (Key × PD) → Prop) : Prop := match ρ[i]? with
  | some (.own (.dK kvs)) => k kvs
  | _ => False
theorem ownD_of {i : Nat} {ρ : Sl} {k : List (Key × PD) → Prop} (h : ownD i ρ k) : ∃ xs, ρ[i]? = some (SD.own (.dK xs)) ∧ k xs := by
  unfold ownD at h
  split at h
  · rename_i xs e; exact ⟨xs, e, h⟩
  · exact h.elim
theorem Rep.dK {B : Addr → Prop} {G H : Hp} {σ : L2.St} {ρ : Sl} {i : Nat} {xs : List (Key × PD)} (R : Rep K B G H σ ρ) (hi : ρ[i]? = some (SD.own (.dK xs))) : ∃ p vs, σ[i]? = some (some (V.ref p)) ∧ H p = some (.dK vs) ∧ RpKv K G vs xs := by
  obtain ⟨p, ho, h1, h2, h3, h4, h5⟩ := R.own i _ hi
  cases h5 with
  | dK r => exact ⟨p, _, h1, h2, r⟩
def getP (kds : List (Key × PD)) (k : Key) : Option PD := (kds.find? fun kv => decide (kv.1 = k)).map (·.2)
def putP (kds : List (Key × PD)) (k : Key) (d : PD) : List (Key × PD) := if (kds.any fun kv => decide (kv.1 = k)) = true then kds.map (fun kv => if kv.1 = k then (kv.1, d) else kv) else kds ++ [(k, d)]
theorem kv_any {G : Hp} {k : Key} : ∀ {vs : List (Key × V)} {ds : List (Key × PD)}, RpKv K G vs ds → (vs.any fun kv => decide (kv.1 = k)) = ds.any fun kv => decide (kv.1 = k)
  | _, _, .nil => rfl
  | _, _, .cons h r => by simp only [List.any_cons, kv_any r]
theorem kv_get {G : Hp} {k : Key} : ∀ {vs : List (Key × V)} {ds : List (Key × PD)}, RpKv K G vs ds → (valV vs k = none ∧ getP ds k = none) ∨ ∃ v d, valV vs k = some v ∧ getP ds k = some d ∧ Rp K G v d
  | _, _, .nil => .inl ⟨rfl, rfl⟩
  | (k', v) :: vs, (_, d) :: ds, .cons h r => by
    by_cases hk : k' = k
    · subst hk
      exact .inr ⟨v, d, by simp [valV], by simp [getP], h⟩
    · have e1 : valV ((k', v) :: vs) k = valV vs k := by unfold valV; rw [List.find?_cons_of_neg (by simpa using hk)]
      have e2 : getP ((k', d) :: ds) k = getP ds k := by unfold getP; rw [List.find?_cons_of_neg (by simpa using hk)]
      rw [e1, e2]
      exact kv_get r
theorem kv_map {G : Hp} {k : Key} {v : V} {d : PD} (h0 : Rp K G v d) : ∀ {vs : List (Key × V)} {ds : List (Key × PD)}, RpKv K G vs ds → RpKv K G (vs.map fun kv => if kv.1 = k then (kv.1, v) else kv) (ds.map fun kv => if kv.1 = k then (kv.1, d) else kv)
  | _, _, .nil => .nil
  | (k', _) :: _, _, .cons h r => by
    simp only [List.map_cons]
    by_cases hk : k' = k
    · rw [if_pos hk, if_pos hk]; exact .cons h0 (kv_map h0 r)
    · rw [if_neg hk, if_neg hk]; exact .cons h (kv_map h0 r)
theorem kv_app {G : Hp} {k : Key} {v : V} {d : PD} (h0 : Rp K G v d) : ∀ {vs : List (Key × V)} {ds : List (Key × PD)}, RpKv K G vs ds → RpKv K G (vs ++ [(k, v)]) (ds ++ [(k, d)])
  | _, _, .nil => .cons h0 .nil
  | _, _, .cons h r => .cons h (kv_app h0 r)
theorem kv_put {G : Hp} {k : Key} {v : V} {d : PD} (h0 : Rp K G v d) {vs : List (Key × V)} {ds : List (Key × PD)} (r : RpKv K G vs ds) : RpKv K G (putK vs k v) (putP ds k d) := by
  unfold putK putP
  rw [kv_any r]
  split
  · exact kv_map h0 r
  · exact kv_app h0 r
theorem vw_key {G H : Hp} {v : V} {d : PD} {k : Key} (h : Vw K G H v d) (e : d.key = some k) : v = kV k := by
  cases d with
  | int i => cases e; exact h.int
  | str z => cases e; exact h.str
  | _ => cases e
/-- k in d, k not in d; d the slot j -/
def wDIn (neg : Bool) (wk : We) (j : Nat) : We := fun ρ Q => wk ρ fun r ρ1 => look r ρ1 fun d => ok d.key fun k => ownD j ρ1 fun kvs => Q (.dat (.bl (if neg then !(getP kvs k).isSome else (getP kvs k).isSome))) ρ1
theorem getP_some {G : Hp} {k : Key} {vs : List (Key × V)} {ds : List (Key × PD)} (r : RpKv K G vs ds) : (valV vs k).isSome = (getP ds k).isSome := by
  rcases kv_get (k := k) r with ⟨a, b⟩ | ⟨v, d, a, b, _⟩ <;> rw [a, b] <;> rfl
theorem we_din {j : Nat} {ty : TE} {wk : We} (h : WE K ty wk) : WE K (tDIn ty (tVar j)) (wDIn false wk j) := fun B G H σ ρ Q QV R q k =>
  h B G H σ ρ _ _ R q fun y G1 H1 ρ1 r S1 R1 rr q1 => by
    obtain ⟨d, ed, q1⟩ := ok_some q1
    obtain ⟨c, ec, q1⟩ := ok_some q1
    obtain ⟨kvs, ek, q1⟩ := ownD_of q1
    obtain ⟨p, vs, hs, hp, rk⟩ := R1.dK ek
    refine ⟨_, hs, p, valV vs c, rfl, ?_, ?_⟩
    · rw [vw_key (rr.vw R1 ed) ec]; exact DGet.k hp
    · rw [getP_some rk]; exact k _ G1 H1 ρ1 _ S1 R1 (.dat (.bl _)) q1
theorem we_dnotin {j : Nat} {ty : TE} {wk : We} (h : WE K ty wk) : WE K (tDNotIn ty (tVar j)) (wDIn true wk j) := fun B G H σ ρ Q QV R q k =>
  h B G H σ ρ _ _ R q fun y G1 H1 ρ1 r S1 R1 rr q1 => by
    obtain ⟨d, ed, q1⟩ := ok_some q1
    obtain ⟨c, ec, q1⟩ := ok_some q1
    obtain ⟨kvs, ek, q1⟩ := ownD_of q1
    obtain ⟨p, vs, hs, hp, rk⟩ := R1.dK ek
    refine ⟨_, hs, p, valV vs c, rfl, ?_, ?_⟩
    · rw [vw_key (rr.vw R1 ed) ec]; exact DGet.k hp
    · rw [getP_some rk]; exact k _ G1 H1 ρ1 _ S1 R1 (.dat (.bl _)) q1
/-- d[k]; d the slot j -/
def wDGet (j : Nat) (wk : We) : We := fun ρ Q => ownD j ρ fun _ => wk ρ fun r ρ1 => look r ρ1 fun d => ok d.key fun k => ownD j ρ1 fun kvs => ok (getP kvs k) fun v => Q (.dat v) ρ1
theorem we_dget {j : Nat} {ty : TE} {wk : We} (h : WE K ty wk) : WE K (tDGet (tVar j) ty) (wDGet j wk) := fun B G H σ ρ Q QV R q k => by
  obtain ⟨_, e0, q⟩ := ownD_of q
  obtain ⟨p, _, hs, _, _⟩ := R.dK e0
  refine ⟨_, hs, h B G H σ ρ _ _ R q fun y G1 H1 ρ1 r S1 R1 rr q1 => ?_⟩
  obtain ⟨d, ed, q1⟩ := ok_some q1
  obtain ⟨c, ec, q1⟩ := ok_some q1
  obtain ⟨kvs, ek, q1⟩ := ownD_of q1
  obtain ⟨v, ev, q1⟩ := ok_some q1
  obtain ⟨p', vs, hs', hp, rk⟩ := R1.dK ek
  rw [hs] at hs'; cases hs'
  rcases kv_get (k := c) rk with ⟨_, z⟩ | ⟨w, d', a, b, rw'⟩
  · rw [z] at ev; cases ev
  · rw [b] at ev; cases ev
    refine ⟨p, w, rfl, ?_, k _ G1 H1 ρ1 _ S1 R1 (.dat rw') q1⟩
    rw [vw_key (rr.vw R1 ed) ec, ← a]
    exact DGet.k hp
/-- d[k] = e; d the slot j -/
def wDPut (j : Nat) (wk wv : We) : Ws := fun O ρ => wv ρ fun r ρ1 => warm r ρ1 ∧ frz [r.cool] ρ1 fun ds ρ2 => ownD j ρ2 fun _ => wk ρ2 fun rk ρ3 => look rk ρ3 fun dk => ok dk.key fun k => ownD j ρ3 fun kvs => match ds with
  | [d] => kvs.length < sizeLine ∧ O.nx (ρ3.set j (.own (.dK (putP kvs k d))))
  | _ => False
theorem RpKv.length {G : Hp} : ∀ {vs : List (Key × V)} {ds : List (Key × PD)}, RpKv K G vs ds → vs.length = ds.length
  | _, _, .nil => rfl
  | _, _, .cons _ r => congrArg (· + 1) (RpKv.length r)
theorem ws_dput {j : Nat} {ty tv : TE} {wk wv : We} (hv : WE K tv wv) (hk : WE K ty wk) : WSs K T (sDPut (tVar j) ty tv) (wDPut j wk wv) := fun B G H σ S0 ρ O D R P q kn kr kb kc =>
  hv B G H σ ρ _ _ R q fun v G1 H1 ρ1 r S1 R1 rr ⟨c1, q1⟩ => by
    obtain ⟨G1', S1', R1', rr1', cc, ec⟩ := rr.cool R1 c1
    obtain ⟨⟨ds, ρ2⟩, e, q1⟩ := ok_some q1
    obtain ⟨G2, S2, R2, ra⟩ := frz_all R1' (.cons rr1' cc .nil) e
    obtain ⟨_, e0, q1⟩ := ownD_of q1
    obtain ⟨p, _, hs, _, _⟩ := R2.dK e0
    refine ⟨_, hs, hk B G2 H1 σ ρ2 _ _ R2 q1 fun y G3 H3 ρ3 rk S3 R3 rr3 q3 => ?_⟩
    obtain ⟨dk, edk, q3⟩ := ok_some q3
    obtain ⟨c, ecd, q3⟩ := ok_some q3
    obtain ⟨kvs, ek, q3⟩ := ownD_of q3
    obtain ⟨p', vs, hs', hp, rkv⟩ := R3.dK ek
    rw [hs] at hs'; cases hs'
    match ds, ra, q3 with
    | [d], ra, ⟨hz, q3⟩ =>
      obtain ⟨w, ew, rv⟩ := ra.one
      cases ew
      obtain ⟨R4, S4⟩ := R3.write (ho' := .dK (putK vs c v)) ek hs (.dK (kv_put (rv.mono S3.g) rkv))
      refine ⟨p, _, rfl, ?_, kn G3 _ σ _ ((((S1.trans S1').trans S2).trans S3).trans S4) R4 P q3⟩
      rw [vw_key (rr3.vw R3 edk) ecd]
      exact DPut.k hp (by rw [rkv.length]; exact hz)
variable {e2 : Expr} {x1 : Str} {t2 : TE} {wk : We} {j : Nat}
theorem de_din (hu : X.cx.A.units + 1 < cLine) (hk : DE X e t2 wk) (hd : DE X (.Name x1 p) (tVar j) (wVar j)) (h1 : behindInMarks .In (.Name x1 p) = false := by rfl) : DE X (.Compare e [.In] [.Name x1 p] pos) (tDIn t2 (tVar j)) (wDIn false wk j) := ⟨pe_cmp (pc_din hu hk.pe hd.pe) h1, we_din hk.we⟩
theorem de_dnotin (hu : X.cx.A.units + 1 < cLine) (hk : DE X e t2 wk) (hd : DE X (.Name x1 p) (tVar j) (wVar j)) (h1 : behindInMarks .NotIn (.Name x1 p) = false := by rfl) : DE X (.Compare e [.NotIn] [.Name x1 p] pos) (tDNotIn t2 (tVar j)) (wDIn true wk j) := ⟨pe_cmp (pc_dnotin hu hk.pe hd.pe) h1, we_dnotin hk.we⟩
theorem dt_din (hu : X.cx.A.units + 1 < cLine) (hk : DE X e t2 wk) (hd : DE X (.Name x1 p) (tVar j) (wVar j)) (h1 : behindInMarks .In (.Name x1 p) = false := by rfl) : DT X (.Compare e [.In] [.Name x1 p] pos) (tB (tDIn t2 (tVar j))) (wB (wDIn false wk j)) := ⟨pt_cmp (pc_din hu hk.pe hd.pe) h1, wt_of (we_din hk.we)⟩
theorem dt_dnotin (hu : X.cx.A.units + 1 < cLine) (hk : DE X e t2 wk) (hd : DE X (.Name x1 p) (tVar j) (wVar j)) (h1 : behindInMarks .NotIn (.Name x1 p) = false := by rfl) : DT X (.Compare e [.NotIn] [.Name x1 p] pos) (tB (tDNotIn t2 (tVar j))) (wB (wDIn true wk j)) := ⟨pt_cmp (pc_dnotin hu hk.pe hd.pe) h1, wt_of (we_dnotin hk.we)⟩
theorem de_dget (hu : X.cx.A.units + 1 < cLine) (hd : DE X (.Name x1 p) (tVar j) (wVar j)) (hk : DE X e t2 wk) (hs : NoSl e) : DE X (.Subscript (.Name x1 p) e pos) (tDGet (tVar j) t2) (wDGet j wk) := ⟨pe_dget hu hd.pe hk.pe hs, we_dget hk.we⟩
theorem ds_dput {tv : TE} {wv : We} {value : Expr} (hu : X.cx.A.units + 1 < cLine) (hv : DE X value tv wv) (hd : DE X (.Name x1 p) (tVar j) (wVar j)) (hk : DE X e t2 wk) (hs : swapsWith value (some (.Subscript (.Name x1 p) e pos')) pos.line X.env = pure false := by rfl) :
    DS X T (.Assign [.Subscript (.Name x1 p) e pos'] value pos) (sDPut (tVar j) t2 tv) (wDPut j wk wv) := ⟨ps_dput hu hd.pe hk.pe hv.pe hs, ws_dput hv.we hk.we⟩
end
end DL

set_option Elab.async false
set_option linter.all false
set_option maxRecDepth 100000
set_option maxHeartbeats 2000000
namespace DL
open PySem L2 RZ
section
variable {X : CxT} {K : KT} {e e2 : Expr} {p pos : Pos}
/-! ### zip of two lists -/
def wZip (wa : Wa) : Wi := fun ρ Q => wa ρ fun rs ρ1 => frz rs ρ1 fun ds ρ2 => match ds with
  | [.lst xs, .lst ys] => Q (zipP xs ys) ρ2
  | _ => False
theorem wi_zip {t : TA} {wa : Wa} (h : WAa K t wa) : WIi K (iZipA K t) (wZip wa) := fun B G H σ ρ Q QJ R q k =>
  h B G H σ ρ _ _ R q fun vs G1 H1 ρ1 rs S1 R1 rr q1 => by
    obtain ⟨⟨ds, ρ2⟩, e, q1⟩ := ok_some q1
    obtain ⟨G2, S2, R2, ra⟩ := frz_all R1 rr e
    match ds, ra, q1 with
    | [.lst xs, .lst ys], .cons r1 (.cons r2 .nil), q1 =>
      cases r1 with
      | lst hg r =>
        cases r2 with
        | lst hg' r' => exact ⟨_, _, _, _, rfl, .inl ⟨SqL.of (R2.gh _ _ hg nt_lst), SqL.of (R2.gh _ _ hg' nt_lst), k _ G2 H1 ρ2 _ (S1.trans S2) R2 (it_zip (fun G' H' e e' => ⟨SqL.of (e' _ _ (e _ _ hg nt_lst) nt_lst), SqL.of (e' _ _ (e _ _ hg' nt_lst) nt_lst)⟩) r r') q1⟩⟩
theorem di_zip {t : TA} {wa : Wa} {elts : List Expr} {kk : Nat} {tpos : Pos} (hm : X.mg "zip" = none) (ha : DA X [e, e2] t wa) (hg : Gl X "zip" := by rfl) (hs : starEach [e, e2] X.env = (false, eval e X.env) :: starEach [e2] X.env := by rfl) (hpl : (backTo pos (starEach [e2] X.env)).any (·.1) = false := by rfl) :
    DI X (.Tuple elts kk tpos) (.Call (.Name "zip" p) [e, e2] [] pos) (iZipA X.K t) (wZip wa) := ⟨pi_zipA hg hm ha.pa hs hpl, wi_zip ha.wa⟩
/-! ### x = [comprehension with a test] -/
theorem ds_setLcIfF {T : Nat → Bool} {elt tg iter cnd : Expr} {i : Nat} {y : Str} {py spos : Pos} {scope : Scope} {own : List (Str × Nat)} {wi : TI} {wI : Wi} {g : TG} {wg : Wg} {tt : TT} {wt : Wt} {te : TE} {we : We} (hT : T i = false) (hc : X.calm = true) (hN : X.N.Nodup) (hy : X.N[i]? = some y) (hyl : X.env.scope.names.lookup y = some .local)
    (hsw : swapsWith (.ListComp elt [⟨tg, iter, [cnd], 0⟩] scope pos) (some (.Name y py)) spos.line X.env = pure true) (hv : (own.map (·.2)).Nodup) (hi : DI X tg iter wi wI) (okb : BlkOk X.N X.env.scope scope own)
    (hg : ∀ (s : Shared) (H : Hp) (C : Addr) (cl : List (Str × Addr)) (fp : List Addr), DG (X.blk s H scope (compEnvC scope cl C X.env) fp) T0 tg g wg) (ho : GOnly (own.map (·.2)) g)
    (ht : ∀ (s : Shared) (H : Hp) (C : Addr) (cl : List (Str × Addr)) (fp : List Addr), DT (X.blk s H scope (compEnvC scope cl C X.env) fp) cnd tt wt)
    (he : ∀ (s : Shared) (H : Hp) (C : Addr) (cl : List (Str × Addr)) (fp : List Addr), DE (X.blk s H scope (compEnvC scope cl C X.env) fp) elt te we) (hs : ∀ x, foldedSetIterable iter X.env x = pure x := by intro _; rfl) :
    DS X T (.Assign [.Name y py] (.ListComp elt [⟨tg, iter, [cnd], 0⟩] scope pos) spos) (tAsg (tLc wi g tt te (own.map (·.2))) (gName i)) (wSetF i (wLc (own.map (·.2)) wI wg wt we)) :=
  ds_setLcF hT hc hN hy hyl hsw hv hi okb hg ho (fun s H C cl fp => pts_one (ht s H C cl fp).pt) (ht X.s_0 X.H_0 0 [] []).wt he hs
/-! ### a, b, .. = x, y, .. through a tuple (names of cells, four names and more) -/
def gsNames : List Nat → TGs
  | [] => gNil
  | i :: is => gCons (gName i) (gsNames is)
theorem gs_setAll {H : Hp} {Q : L2.St → Hp → Prop} : ∀ {is : List Nat} {vs : List V} {σ : L2.St}, vs.length = is.length → Q (setAll is vs σ) H → gsNames is vs σ H Q
  | [], [], σ, _, h => ⟨rfl, h⟩
  | i :: is, v :: vs, σ, e, h => ⟨v, vs, rfl, gs_setAll (is := is) (vs := vs) (by simpa using e) h⟩
theorem RRh.aside {G H : Hp} {σ : L2.St} {ρ : Sl} {p : Addr} {o : HO} (hp : H p = none) : ∀ {vs : List V} {rs : List Rz} {B : Addr → Prop}, RRh K G H σ ρ B vs rs → RRh K G (upd H p o) σ ρ B vs rs
  | _, _, _, .nil => .nil
  | _, _, _, .cons h t => by
    refine .cons ?_ (RRh.aside hp t)
    cases h with
    | dat q => exact .dat q
    | bor q => exact .bor q
    | own h1 h2 h3 h4 h5 => exact .own (by rw [upd_ne (ne_of_none h1 hp)]; exact h1) h2 h3 h4 h5
theorem ws_putsT {T : Nat → Bool} {is : List Nat} {ta : TA} {wa : Wa} (hi : is.all (fun i => !T i) = true) (hn : is.length ≤ sizeLine) (h : WAh K ta wa) : WSs K T (tAsg (tTup ta) (gTup K is.length (gsNames is))) (wPuts is wa) := fun B G H σ S0 ρ O D R P q kn kr kb kc =>
  h B G H σ ρ _ _ R q fun vs G1 H1 ρ1 rs S1 R1 rr q1 => by
    obtain ⟨ρ2, e, q1⟩ := ok_some q1
    have hl := rr.length.trans (puts_len e)
    refine ⟨by rw [hl]; exact hn, fun p hp => ⟨p, vs, rfl, Or.inl (Or.inl upd_same), hl, gs_setAll hl ?_⟩⟩
    have gp : G1 p = none := R1.gh.free R1.tb hp
    have nB : ¬ B p := fun z => (R1.bh p z).no hp
    have nS : ∀ (i : Nat) (u : OD), ρ1[i]? = some (SD.own u) → σ[i]? ≠ some (some (V.ref p)) := fun i u hi hz => by
      obtain ⟨q, hq, h1, h2, _⟩ := R1.own i u hi
      rw [hz] at h1; cases h1; rw [hp] at h2; cases h2
    have R1' : Rep K B G1 (upd H1 p (.tup vs)) σ ρ1 := R1.aside (.inl hp) gp nB nS
    have R2 := rep_puts R1' (rr.aside hp) e
    exact kn G1 _ _ ρ2 (S1.trans ⟨Ex.refl _, fun _ _ h => h, fun _ _ h => h, fun a o hb h _ => by rw [upd_ne (nb_ne nB hb)]; exact h, fun _ _ _ _ _ => rfl⟩) R2 (P.setAll hi) q1
theorem ds_putsT {T : Nat → Bool} {is : List Nat} {ts es : List Expr} {ta : TA} {wa : Wa} {kt k2 : Nat} {pt pt2 : Pos} (hT : is.all (fun i => !T i) = true) (hz : is.length ≤ 100) (hc : X.calm = true) (hg : PGs X ts (gsNames is)) (ha : DAh X es ta wa)
    (hn : (assignEach ts X.env).length = is.length := by rfl) (hst : (assignEach ts X.env).findIdx? (·.1) = none := by rfl)
    (hs : swapsWithSole [.Tuple ts kt pt] (.Tuple es k2 pt2) pos.line X.env = pure false := by rfl) (hw : swappedStores [.Tuple ts kt pt] (.Tuple es k2 pt2) X.env = pure none := by rfl) (h1 : (assignEach [.Tuple ts kt pt] X.env).map (·.2) = [assign (.Tuple ts kt pt) X.env] := by rfl) :
    DS X T (.Assign [.Tuple ts kt pt] (.Tuple es k2 pt2) pos) (tAsg (tTup ta) (gTup X.K is.length (gsNames is))) (wPuts is wa) :=
  ⟨ps_asg (pe_tup ha.pa) (pg_tup hc hg hn hst) hs hw h1, ws_putsT hT (Nat.le_trans hz (by rw [sizeLine_eq]; decide)) ha.wa⟩
/-! ### the same with the written part by its own name (in a comprehension the context is not known yet when the reading is) -/
variable {a b : Expr} {ta tb : TE} {wa wb : We}
theorem de_addK {KF : PySem.W.Frag} (ha : DE X a ta wa) (hb : DE X b tb wb) (hK : X.cx.K = KF := by rfl) : DE X (.BinOp a .Add b pos) (tOp (rAdd4 KF) ta tb) (wBin dAdd wa wb) := by
  subst hK; exact de_add ha hb
theorem de_ixK {KF : PySem.W.Frag} (ha : DE X a ta wa) (hb : DE X b tb wb) (hK : X.cx.K = KF := by rfl) (hs : PlainIx b := by intro _ _; rfl) : DE X (.Subscript a b pos) (tOp (rIx KF) ta tb) (wBin dIx wa wb) := by
  subst hK; exact de_ix ha hb hs
theorem dc_eqK {KF : PySem.W.Frag} (hu : X.cx.A.units + 64 < cLine) (hK : X.cx.K = KF := by rfl) : DC X .Eq (rEqD KF) dEq := by
  subst hK; exact dc_eq hu
theorem dc_neK {KF : PySem.W.Frag} (hu : X.cx.A.units + 64 < cLine) (hK : X.cx.K = KF := by rfl) : DC X .NotEq (rOr rNeDA (rNeD KF)) dNeX := by
  subst hK; exact dc_neX hu
theorem dc_inK {KF : PySem.W.Frag} (hK : X.cx.K = KF := by rfl) : DC X .In (rIn KF false) (dIn false) := by
  subst hK; exact dc_in
theorem dc_notInK {KF : PySem.W.Frag} (hK : X.cx.K = KF := by rfl) : DC X .NotIn (rIn KF true) (dIn true) := by
  subst hK; exact dc_notIn
end
end DL

set_option Elab.async false
set_option linter.all false
set_option maxRecDepth 100000
set_option maxHeartbeats 2000000
namespace DL
open PySem L2 PySem.Spec PyProof.Rows
/-! ### enumerate of a tuple -/
/-- an iterator of a tuple that is at its end -/
theorem draws_end {prog : Program} {w : World} {A : Around} (hh : A.handled = none) (it t : Addr) (items : Array Value) (i : Nat) (hi : items[i]? = none) (hne : t ≠ it) :
    Draws prog w A it [it, t] i (fun _ _ => True) (fun j h => j = i ∧ h.IsTupleIter it t i ∧ h.IsTuple t items) where
  live := fun _ _ st => let ⟨o, ho, _⟩ := st.2.1; ⟨o, ho⟩
  frame := fun _ _ _ st hk => ⟨st.1, st.2.1.at fun o e => hk it (by simp) o e, st.2.2.at fun o e => hk t (by simp) o e⟩
  item := fun j s Q E hj st hQ => absurd st.1 (by omega)
  done := fun s Q E st hE => wpAny_nextOf_tuple_end hh st.2.1 st.2.2 hi hE
/-- the object that enumerate makes of what begins as o -/
def enO (a : Addr) : Obj := { cls := .type "enumerate", data := .fields #[.none, .bool false, .ref a, rawInt 0, .none, .none] }
theorem meets_en {v : Value} {o : Obj} {H : Heap → Prop} (B : Begins v o H) : Meets (Builtin.«enumerate.__new__» ⟨[.type "enumerate", v], []⟩) (fun _ R s => H s.heap ∧ R (.ok (.ret (.ref (s.heap.push o).objs.size))) { s with heap := (s.heap.push o).push (enO s.heap.objs.size) }) :=
  .of_wp fun prog w A R s hs => by
    obtain ⟨hp, g, d, tk, os⟩ := s; obtain ⟨hH, hR⟩ := hs; have sb := sub_enumerate
    have begin1 : ∀ {A' : Around} {E Q : Value → Shared → Prop}, Q (.ref hp.objs.size) ⟨hp.push o, g, d, tk, os⟩ → wpAny (model prog w) A' (pyIter v) Q E ⟨hp, g, d, tk, os⟩ := fun q => B.iter prog w _ _ ⟨hp, g, d, tk, os⟩ _ hH q
    wp_walk using begin1
    refine wpAny_stack_any fun st0 => wpAny_pure ?_; split
    · rename_i c _ _ _ _ _; cases (c == Value.type "enumerate") <;> (wp_walk using begin1; exact ⟨_, rfl, hR⟩)
    · wp_walk using begin1; exact ⟨_, rfl, hR⟩
theorem call_en {prog : Program} {w : World} {A : Around} {E : Value → Shared → Prop} {s : Shared} {v : Value} {o : Obj} {H : Heap → Prop} {Q : Value → Shared → Prop} (B : Begins v o H) (hH : H s.heap)
    (k : ∀ h', IsEnum h' (s.heap.objs.size + 1) s.heap.objs.size 0 .none → h'.get? s.heap.objs.size = some o → (∀ b u, s.heap.get? b = some u → h'.get? b = some u) → Q (.ref (s.heap.objs.size + 1)) { s with heap := h' }) : wpAny (model prog w) A (call (.type "enumerate") [v]) Q E s := by
  refine callType_new F.called_enumerate (by decide) (F.typeCall_enumerate_1 v) (F.newCall_enumerate_1 v) (fun obj => F.args_object_init_2 obj v) F.entry_enumerate_new (meets_en B) ⟨hH, ?_⟩
  have sz : (s.heap.push o).objs.size = s.heap.objs.size + 1 := Heap.size_push ..
  have e1 : ((s.heap.push o).push (enO s.heap.objs.size)).get? (s.heap.objs.size + 1) = some (enO s.heap.objs.size) := by rw [← sz]; exact Heap.get?_push_size (s.heap.push o) rfl
  show _ ∧ _
  rw [sz]
  exact ⟨⟨_, e1, rfl⟩, k _ e1 (Heap.get?_push_of_some _ (Heap.get?_push_size _ B.free)) fun b u x => Heap.get?_push_of_some _ (Heap.get?_push_of_some _ x)⟩
def IteT (K : PySem.W.Frag) (a : Addr) : It :=
  ⟨fun i H => ∃ (xs : List V) (x : V), SqT K H a xs ∧ xs[i]? = some x, fun i H v H' => ∃ t x, v = .ref t ∧ H t = none ∧ H' = upd H t (.tup [.int (i : Nat), x]) ∧ ∀ xs, SqT K H a xs → xs[i]? = some x, fun i H => ∃ xs : List V, SqT K H a xs ∧ xs.length ≤ i⟩
/-- how a turn of enumerate over the tuple at a stands: e the enumerate, it its iterator -/
def EnSt (a e it : Addr) (i : Nat) (h : Heap) : Prop := (∃ old, IsEnum h e it ((i : Nat) : Int) old) ∧ h.IsTupleIter it a i ∧ e ≠ it ∧ e ≠ a ∧ a ≠ it
theorem turn_en {P : Program} {w : World} {K : PySem.W.Frag} {elts : List Expr} {kk : Nat} {tpos : Pos} (a e it : Addr) : Turn P w K (.Tuple elts kk tpos) (IteT K a) [e, it] e (EnSt a e it) where
  mem := by simp
  obj := fun i h st b hb => by
    obtain ⟨⟨old, he⟩, ⟨o, ho, hc, hd⟩, _⟩ := st
    rcases (show b = e ∨ b = it by simpa using hb) with rfl | rfl
    · exact ⟨_, he, fun v q => nomatch q⟩
    · exact ⟨o, ho, fun v q => by rw [hd] at q; cases q⟩
  keep := fun i h h' st k => let ⟨⟨old, he⟩, hi, hn⟩ := st; ⟨⟨old, k e (by simp) _ he⟩, hi.at fun o q => k it (by simp) o q, hn⟩
  item := by
    intro X hP hw hK hc i pins s σ H E I hf st hg
    subst hP hw hK
    obtain ⟨⟨old, he⟩, hit, hne, hea, hai⟩ := st
    obtain ⟨xs, x, hq, hx⟩ := hg
    obtain ⟨its, rv, tp, _⟩ := I.tuple hq
    obtain ⟨u, hu, ru⟩ := rv.get hx
    have hus : its.toArray[i]? = some u := by simpa using hu
    have hlt : i < its.toArray.size := (Array.getElem?_eq_some_iff.mp hus).1
    have hel : e < s.heap.objs.size := Heap.lt_size he
    have hil : it < s.heap.objs.size := by obtain ⟨_, q, _⟩ := hit; exact Heap.lt_size q
    have D : Draws X.prog X.w X.A.in1 it [it, a] its.toArray.size (fun i v => its.toArray[i]? = some v) (fun i h => h.IsTupleIter it a i ∧ h.IsTuple a its.toArray) := Draws.tuple (show X.A.in1.handled = none from I.ok.hd hc) it a hai its.toArray
    refine PySem.wpAny_pyNext_enum_itemC D he ⟨hit, tp⟩ hlt hne (by simp [hne, hea]) fun x' h' tk hx' ho hst hT hsz hk => ?_
    have ex : x' = u := by have := hx'.symm.trans hus; exact Option.some.inj this
    subst ex
    refine ⟨_, rfl, wpAny_letOwnedTupleGo_enum (s := { s with heap := h', toks := tk + 1 }) ho fun h'' he' sb => ?_⟩
    have hT2 : h''.get? s.heap.objs.size = some { cls := .type "tuple", data := .seq #[.int i tk, x'] } := (sb.2 _ (Nat.ne_of_gt hel)).trans hT
    have new : ObjOk X.prog X.w (upd H s.heap.objs.size (.tup [.int (i : Nat), x])) h'' s.heap.objs.size (.tup [.int (i : Nat), x]) := ⟨by show 2 ≤ sizeLine; decide, [.int i tk, x'], .cons ⟨_, rfl⟩ (.cons ru .nil), ⟨_, hT2, rfl, _, rfl⟩⟩
    have I1 : Inv X pins σ (upd H s.heap.objs.size (.tup [.int (i : Nat), x])) { s with heap := h'', toks := tk + 1 } :=
      I.turnedNew (t' := tk + 1) (ch := [e, it]) (fun b ob hb q => (sb.2 b (fun z => hb (by simp [z]))).trans (hk b ob (fun z => hb (by simp [z])) (fun z => hb (by simp [z])) q)) hf (Nat.le_refl _) new
    have e1 : ((i + 1 : Nat) : Int) = (i : Int) + 1 := by omega
    refine ⟨.ref s.heap.objs.size, _, I1, rfl, ⟨_, x, rfl, I.hok.fresh (Nat.le_refl _), rfl, fun ys hy => by rw [I.tuple_inj hy hq]; exact hx⟩, ⟨⟨x', by rw [e1]; exact he'⟩, hst.1.at fun o q => (sb.2 it (Ne.symm hne)).trans q, hne, hea, hai⟩, fun b hb => ?_⟩
    have hbl : b < s.heap.objs.size := by rcases (show b = e ∨ b = it by simpa using hb) with rfl | rfl <;> assumption
    rw [upd_ne (Nat.ne_of_lt hbl)]; exact (hf b hb).1
  done := by
    intro X hP hw hK hc i pins s σ H E I hf st hg
    subst hP hw hK
    obtain ⟨⟨old, he⟩, hit, hne, hea, hai⟩ := st
    obtain ⟨xs, hq, hx⟩ := hg
    obtain ⟨its, rv, tp, _⟩ := I.tuple hq
    obtain ⟨f0, f1, f2, f3, f4, f5⟩ := hf it (by simp)
    have hl := rv.length
    have D := draws_end (prog := X.prog) (w := X.w) (A := X.A.in1) (show X.A.in1.handled = none from I.ok.hd hc) it a its.toArray i (by simp; omega) hai
    exact wpAny_pyNext_enum_endD D he ⟨rfl, hit, tp⟩ fun h' eb => ⟨rfl, I.turned (t' := s.toks) (fun b o hb q => eb b o hb q) f0 f1 f3 f4 f5⟩
  self := fun A i s Q E st h => let ⟨⟨_, he⟩, _⟩ := st; wpAny_pyIter_enum he h
/-- what enumerate goes over: a list, or a tuple -/
def iEnumX (K : PySem.W.Frag) (ta : TA) : TI := fun σ H R => ta σ H fun vs H1 => ∃ a xs, vs = [.ref a] ∧ ((SqL K H1 a xs ∧ R (Ite K a) H1) ∨ (SqT K H1 a xs ∧ R (IteT K a) H1))
theorem pi_enumX {X : Cx} {e : Expr} {ta : TA} {p pos tpos : Pos} {elts : List Expr} {kk : Nat} (hm : X.mg "enumerate" = none) (ha : PA X [e] ta) (hg : Gl X "enumerate" := by rfl) (hs : starEach [e] X.env = [(false, eval e X.env)] := by rfl) : PI X (.Tuple elts kk tpos) (.Call (.Name "enumerate" p) [e] [] pos) (iEnumX X.K ta) := by
  refine ⟨fun pins s σ H R I hh => ?_⟩
  refine Call_ (ld_blt I hg hm boot_enumerate (PyProof.Rows.callWith_type1 (thn (ha.run pos pins s σ H _ I hh) fun us s1 ⟨vs, H1, I1, r1, a, xs, ev, hq⟩ => ?_) hs rfl))
  subst ev
  cases r1 with
  | cons r rr =>
    cases rr; cases r
    have fp : ∀ b ∈ [s1.heap.objs.size + 1, s1.heap.objs.size], s1.heap.objs.size ≤ b := fun b hb => by rcases (show b = s1.heap.objs.size + 1 ∨ b = s1.heap.objs.size by simpa using hb) with rfl | rfl <;> omega
    rcases hq with ⟨hq, q⟩ | ⟨hq, q⟩
    · obtain ⟨its, rv, lp, _⟩ := I1.list hq
      refine call_enumerate_list lp.isList fun h' he hit hz hk => wpAny_pyIter_enum he ⟨s1.heap.objs.size + 1, [s1.heap.objs.size + 1, s1.heap.objs.size], _, _, H1, rfl, I1.kept (t' := s1.toks) hk, turn_enum a (s1.heap.objs.size + 1) s1.heap.objs.size, ⟨⟨.none, he⟩, hit, Nat.succ_ne_self _⟩, fun b hb => I1.fpOk (fp b hb) (I1.hok.fresh (fp b hb)), q⟩
    · obtain ⟨its, rv, tp, _⟩ := I1.tuple hq
      have al : a < s1.heap.objs.size := by obtain ⟨_, q, _⟩ := id tp; exact Heap.lt_size q
      refine call_en (begins_tuple a its.toArray) tp fun h' he ho hk => wpAny_pyIter_enum he ⟨s1.heap.objs.size + 1, [s1.heap.objs.size + 1, s1.heap.objs.size], _, _, H1, rfl, I1.kept (t' := s1.toks) hk, turn_en a (s1.heap.objs.size + 1) s1.heap.objs.size, ⟨⟨.none, he⟩, ⟨_, ho, rfl, rfl⟩, Nat.succ_ne_self _, (Nat.ne_of_lt (Nat.lt_succ_of_lt al)).symm, Nat.ne_of_lt al⟩, fun b hb => I1.fpOk (fp b hb) (I1.hok.fresh (fp b hb)), q⟩
section
variable {K : KT}
theorem it_enumT {G0 : Hp} {q : Addr} {vs : List V} {ds : List PD} (hG : ∀ G H, Ex G0 G → Ex G H → SqT K H q vs) (r : RpAll K G0 vs ds) : ItOk K G0 (IteT K q) (enumP ds) := fun B σ ρ G H e R => by
  have hq := hG G H e R.gh
  have hl : (enumP ds).length = ds.length := by unfold enumP; rw [List.length_mapIdx]
  refine ⟨fun i hi => ⟨vs, hq, by rw [r.length, ← hl]; exact hi⟩, fun i d hd => ?_⟩
  unfold enumP at hd
  rw [List.getElem?_mapIdx] at hd
  cases hx : ds[i]? with
  | none => rw [hx] at hd; cases hd
  | some x =>
    rw [hx] at hd
    cases hd
    obtain ⟨v, hv, rv⟩ := r.get hx
    refine ⟨⟨vs, v, hq, hv⟩, fun y H' ⟨t, w, ey, ht, eH, hw⟩ => ?_⟩
    have := hw vs hq
    rw [hv] at this; cases this
    subst ey; subst eH
    exact fresh_tup R ht (.cons (.int _) (.cons (rv.mono e) .nil))
def wEnumX (wa : Wa) : Wi := fun ρ Q => wa ρ fun rs ρ1 => frz rs ρ1 fun ds ρ2 => match ds with
  | [.lst xs] => Q (enumP xs) ρ2
  | [.scr ns] => Q (enumP (ns.map .int)) ρ2
  | [.tup xs] => Q (enumP xs) ρ2
  | _ => False
theorem wi_enumX {t : TA} {wa : Wa} (h : WAa K t wa) : WIi K (iEnumX K t) (wEnumX wa) := fun B G H σ ρ Q QJ R q k =>
  h B G H σ ρ _ _ R q fun vs G1 H1 ρ1 rs S1 R1 rr q1 => by
    obtain ⟨⟨ds, ρ2⟩, e, q1⟩ := ok_some q1
    obtain ⟨G2, S2, R2, ra⟩ := frz_all R1 rr e
    match ds, ra, q1 with
    | [.lst xs], ra, q1 =>
      obtain ⟨w, ew, rw'⟩ := ra.one
      cases ew
      cases rw' with
      | lst hg r => exact ⟨_, _, rfl, .inl ⟨SqL.of (R2.gh _ _ hg nt_lst), k _ G2 H1 ρ2 _ (S1.trans S2) R2 (it_enum (fun G' H' e e' => SqL.of (e' _ _ (e _ _ hg nt_lst) nt_lst)) r) q1⟩⟩
    | [.scr ns], ra, q1 =>
      obtain ⟨w, ew, rw'⟩ := ra.one
      cases ew
      cases rw' with
      | scr hg => exact ⟨_, _, rfl, .inl ⟨ex_l R2.gh hg, k _ G2 H1 ρ2 _ (S1.trans S2) R2 (it_enum (fun G' H' e e' => ex_l e' (ex_l e hg)) (rp_ints ns)) q1⟩⟩
    | [.tup xs], ra, q1 =>
      obtain ⟨w, ew, rw'⟩ := ra.one
      cases ew
      cases rw' with
      | tup hg r => exact ⟨_, _, rfl, .inr ⟨ex_t R2.gh hg, k _ G2 H1 ρ2 _ (S1.trans S2) R2 (it_enumT (fun G' H' e e' => ex_t e' (ex_t e hg)) r) q1⟩⟩
theorem di_enumX {X : CxT} {e : Expr} {t : TA} {wa : Wa} {elts : List Expr} {kk : Nat} {p pos tpos : Pos} (hm : X.mg "enumerate" = none) (ha : DA X [e] t wa) (hg : Gl X "enumerate" := by rfl) (hs : starEach [e] X.env = [(false, eval e X.env)] := by rfl) :
    DI X (.Tuple elts kk tpos) (.Call (.Name "enumerate" p) [e] [] pos) (iEnumX X.K t) (wEnumX wa) := ⟨pi_enumX hm ha.pa hg hs, wi_enumX ha.wa⟩
end
end DL

set_option Elab.async false
set_option linter.all false
set_option maxRecDepth 100000
set_option maxHeartbeats 2000000
namespace DL
open PySem L2
/-! ### calls by the names of the parameters -/
structure DK (X : CxT) (kws : List Keyword) (tk : TA) (wk : Wa) : Prop where
  pk : PK X kws tk
  wa : WAa X.K tk wk
section
variable {X : CxT} {K : KT} {e : Expr} {te : TE} {we : We} {kws : List Keyword} {t : TA} {w : Wa} {nm : Option Str} {kpos p pos : Pos} {x : Str}
theorem dk_nil : DK X [] tNil wNil := ⟨pk_nil, (da_nil (X := X)).wa⟩
theorem dk_cons (he : DE X e te we) (hr : DK X kws t w) : DK X (⟨nm, e, kpos⟩ :: kws) (tCons te t) (wCons we w) := ⟨pk_cons he.pe hr.pk, wa_cons he.we hr.wa⟩
def tPick (pk : List Nat) (t : TA) : TA := fun σ H Q => t σ H fun zs H1 => Q (pick pk zs) H1
def wPick (pk : List Nat) (w : Wa) : Wa := fun ρ Q => w ρ fun rs ρ1 => Q (pick pk rs) ρ1
theorem rrs_at {B : Addr → Prop} {G H : Hp} {σ : L2.St} {ρ : Sl} : ∀ {vs : List V} {rs : List Rz} (i : Nat), RRs K B G H σ ρ vs rs → (∃ v r, vs[i]? = some v ∧ rs[i]? = some r ∧ RR K B G H σ ρ v r ∧ r.cold = true) ∨ (vs[i]? = none ∧ rs[i]? = none)
  | _, _, _, .nil => .inr ⟨by simp, by simp⟩
  | _, _, 0, .cons h c _ => .inl ⟨_, _, rfl, rfl, h, c⟩
  | _, _, i + 1, .cons _ _ t => by simpa using rrs_at i t
theorem rrs_pick {B : Addr → Prop} {G H : Hp} {σ : L2.St} {ρ : Sl} {vs : List V} {rs : List Rz} (h : RRs K B G H σ ρ vs rs) : ∀ pk : List Nat, RRs K B G H σ ρ (pick pk vs) (pick pk rs)
  | [] => .nil
  | i :: pk => by
    unfold pick
    rcases rrs_at i h with ⟨v, r, e1, e2, h1, h2⟩ | ⟨e1, e2⟩
    · rw [List.filterMap_cons_some e1, List.filterMap_cons_some e2]; exact .cons h1 h2 (rrs_pick h pk)
    · rw [List.filterMap_cons_none e1, List.filterMap_cons_none e2]; exact rrs_pick h pk
theorem wa_pick {pk : List Nat} (h : WAa K t w) : WAa K (tPick pk t) (wPick pk w) := fun B G H σ ρ Q QV R q k =>
  h B G H σ ρ _ _ R q fun vs G1 H1 ρ1 rs S1 R1 rr q1 => k _ G1 H1 ρ1 _ S1 R1 (rrs_pick rr pk) q1
theorem vals_pick {vs : List V} {us : List Value} (h : Vals vs us) : ∀ pk : List Nat, Vals (pick pk vs) (pick pk us)
  | [] => .nil
  | i :: pk => by
    unfold pick
    have at_ : ∀ {vs : List V} {us : List Value} (i : Nat), Vals vs us → (∃ v u, vs[i]? = some v ∧ us[i]? = some u ∧ L2.RelV v u) ∨ (vs[i]? = none ∧ us[i]? = none) := by
      intro vs us i h
      induction h generalizing i with
      | nil => exact .inr ⟨by simp, by simp⟩
      | cons r _ ih =>
        cases i with
        | zero => exact .inl ⟨_, _, rfl, rfl, r⟩
        | succ i => simpa using ih i
    rcases at_ i h with ⟨v, u, e1, e2, h1⟩ | ⟨e1, e2⟩
    · rw [List.filterMap_cons_some e1, List.filterMap_cons_some e2]; exact .cons h1 (vals_pick h pk)
    · rw [List.filterMap_cons_none e1, List.filterMap_cons_none e2]; exact vals_pick h pk
theorem de_calKw {KF : PySem.W.Frag} {Ts : List (Addr × Str)} {W : WX} {Ξ : Xp} {k n : Nat} {ps ks : List Str} {pk : List Nat} {F : Fd} (C : CalW X.prog X.w KF Ts X.mg X.base k x ps ks pk F) (hr : Room k X.A) (hgd : X.A.guards = some []) (ha : DK X kws t w) (hW : Takes X.cx W) (lk : Lk X.cx.K X.B0 X.G0 X.H0 Ξ W) (hkn : pk.all (fun i => decide (i < ks.length)) = true) (hK : X.cx.K = KF := by rfl) (hT : X.T = Ts := by rfl) (hg : Gl X x := by rfl)
    (hall : (backToKw pos (keywordEach kws X.env)).all (·.1.isSome) = true := by rfl) (hks : (backToKw pos (keywordEach kws X.env)).filterMap (·.1) = ks := by rfl) (hlen : kws.length = ks.length := by rfl) (hn : pk.length = n := by rfl) (hps : ps.length = n := by rfl)
    (hpl : ((backTo pos (starEach [] X.env)).any (·.1) || (backToKw pos (keywordEach kws X.env)).any (·.1.isNone)) = false := by rfl) (hdb : (x == ("__debug__" : Str)) = false := by decide) :
    DE X (.Call (.Name x p) [] kws pos) (tCallG KF Ts n F W (tPick pk fun σ H Q => t σ H fun zs H1 => zs.length = ks.length ∧ Q zs H1)) (wCall n F Ξ (wPick pk fun ρ Q => w ρ fun rs ρ1 => rs.length = ks.length ∧ Q rs ρ1)) := by
  subst hK hT
  obtain ⟨f, fd, hm, hk, hb, F0⟩ := C.ex
  have hw : WAa X.K (fun σ H Q => t σ H fun zs H1 => zs.length = ks.length ∧ Q zs H1) (fun ρ Q => w ρ fun rs ρ1 => rs.length = ks.length ∧ Q rs ρ1) := fun B G H σ ρ Q QV R q k =>
    ha.wa B G H σ ρ _ _ R q fun vs G1 H1 ρ1 rs S1 R1 rr ⟨l, q1⟩ => ⟨by rw [rrs_len rr]; exact l, k _ G1 H1 ρ1 _ S1 R1 rr q1⟩
  refine ⟨⟨fun pins s σ H Q I h => ?_⟩, we_call (K := X.K) lk (wa_pick hw)⟩
  refine wpAny_Call_Name_kw (ld_glob I hg hm ?_ hdb)
  refine PySem.W.callWith_KW0 (h₀ := X.base) I.ok.mod.kin hk hall (thn (ha.pk.run pos pins s σ H _ I h) fun ws s2 ⟨zs, H2, I2, rz, hz, q2⟩ => ⟨I2.kIn, ?_⟩) hpl
  rw [hks]
  obtain ⟨B, G, as, Q', Ξ', hl, R, hF, hk', hx⟩ := q2
  have hb' := hb s2 ws (by rw [← rz.length]; exact hz)
  refine wpAny_call (codeAny_mono (F0.run X.A X.stack s2 H2 ⟨[], ks.zip ws⟩ _ _ B G as Q' Ξ' Q (fun cls d H' => W cls d σ H') hr hgd I2.env0 hb' (vals_pick rz pk) (by rw [hl]; exact hps.symm) R hF hk' hx) fun r s' hq => ?_)
  match r, hq with
  | .ok (.ret u), hq => exact I2.after hq
  | .ok .next, hq => exact False.elim hq
  | .ok .brk, hq => exact False.elim hq
  | .ok .cont, hq => exact False.elim hq
  | .error e, hq => exact hW e s' (XE.of_call I2 (fun _ _ _ h => h) hq)
end
end DL
namespace DL
open PySem L2
theorem de_constK {X : CxT} {KF : PySem.W.Frag} {mg : Str → Option Value} {x : Str} {d : PD} {pos : Pos} (C : Const KF mg x d) (hK : X.cx.K = KF := by rfl) (hM : X.cx.mg = mg := by rfl) (hg : Gl X x := by rfl) (hd : (x == ("__debug__" : Str)) = false := by decide) : DE X (.Name x pos) (tK KF d) (wC d) := by
  subst hK hM
  exact de_const C hg hd
end DL

set_option Elab.async false
set_option linter.all false
set_option maxRecDepth 100000
set_option maxHeartbeats 2000000
namespace DL
open PySem L2
/-! ### sorted(xs), xs a list of alike data -/
theorem each_of_vals {α : Type} : ∀ {bs : List (V × α)} {us : List Value}, Vals (bs.map (·.1)) us → PySem.W.EachIs (fun u (b : V × α) => RelV b.1 u) us bs
  | [], _, .nil => .nil
  | _ :: _, _, .cons h t => .cons h (each_of_vals t)
theorem vals_of_each {α : Type} : ∀ {bs : List (V × α)} {us : List Value}, PySem.W.EachIs (fun u (b : V × α) => RelV b.1 u) us bs → Vals (bs.map (·.1)) us
  | [], _, .nil => .nil
  | _ :: _, _, .cons h t => .cons h (vals_of_each t)
/-- what sorted asks of its items -/
def SortOk (es : List PyData) : Prop := PySem.W.AllAlike es ∧ PySem.W.Sortable es ∧ ∀ e ∈ es, e.depth ≤ 60
def leD : PD → PD → Bool := PySem.W.dataLe false PD.py
def rSortD (K : PySem.W.Frag) : List V → Hp → VK → Prop := fun vs H Q => ∃ (a : Addr) (bs : List (V × PD)), vs = [V.ref a] ∧ SqL K H a (bs.map (·.1)) ∧ (∀ b ∈ bs, Dp K H b.1 b.2.py) ∧ SortOk (bs.map fun b => b.2.py) ∧
  ∀ p : Addr, H p = none → Q (.ref p) (upd H p (.lst ((bs.mergeSort (PySem.W.dataLe false fun b => b.2.py)).map (·.1))))
section
variable {X : CxT}
theorem each_reads {pins : List (Addr × Obj)} {σ : L2.St} {H : Hp} {s : Shared} {Y : Cx} (I : Inv Y pins σ H s) : ∀ {bs : List (V × PD)} {us : List Value}, Vals (bs.map (·.1)) us → (∀ b ∈ bs, Dp Y.K H b.1 b.2.py) → PySem.W.EachIs (fun u (b : V × PD) => ∃ as, Reads s.heap u b.2.py as) us bs
  | [], _, .nil, _ => .nil
  | b :: bs, _, .cons h t, hd => .cons (let ⟨as, r⟩ := Dp.reads I _ _ _ (hd b List.mem_cons_self) h; ⟨as, r⟩) (each_reads I t fun c hc => hd c (List.mem_cons_of_mem _ hc))
theorem call_sorted (hu : X.cx.A.units + 66 < cLine) : CallR X (.builtin "sorted") (rSortD X.K) := by
  intro pins s σ H xs us Q I r h
  obtain ⟨a, bs, rfl, hs, hd, ⟨o1, o2, o3⟩, q⟩ := h
  obtain ⟨its, rv, hl, hz⟩ := I.list hs
  rw [Vals.ref1 r]
  rw [List.length_map] at hz
  refine PySem.W.sorted_data (enc := fun b : V × PD => b.2.py) hl.isList (each_of_vals rv) (each_reads I rv hd) o1 o2 hz (fun b hb => ?_) fun out h1 h2 => ?_
  · have := o3 _ (List.mem_map.mpr ⟨b, hb, rfl⟩)
    omega
  · obtain ⟨ep, at'⟩ := PyProof.Rows.sortedAll_at s.heap its out.toArray
    have many : ((bs.mergeSort (PySem.W.dataLe false fun b : V × PD => b.2.py)).map (·.1)).length ≤ sizeLine := by rw [List.length_map, List.length_mergeSort]; exact hz
    exact ⟨V.ref _, upd H (s.heap.objs.size + 1) (.lst ((bs.mergeSort (PySem.W.dataLe false fun b : V × PD => b.2.py)).map (·.1))), I.laid (t' := s.toks) (fun _ _ => PyProof.Rows.sortedAll_old) (Nat.le_succ _) ⟨many, out, ep, vals_of_each h2, at'⟩, rfl, q _ (I.hok.fresh (Nat.le_succ _))⟩
theorem zip_fst {α β : Type} : ∀ {xs : List α} {ys : List β}, xs.length = ys.length → (xs.zip ys).map (·.1) = xs ∧ (xs.zip ys).map (·.2) = ys
  | [], [], _ => ⟨rfl, rfl⟩
  | x :: xs, y :: ys, h => by
    obtain ⟨h1, h2⟩ := zip_fst (xs := xs) (ys := ys) (by simpa using h)
    exact ⟨by rw [List.zip_cons_cons, List.map_cons, h1], by rw [List.zip_cons_cons, List.map_cons, h2]⟩
theorem RpAll.each {K : PySem.W.Frag} {G : Hp} : ∀ {us : List V} {ds : List PD}, RpAll K G us ds → us.length = ds.length ∧ ∀ b ∈ us.zip ds, Rp K G b.1 b.2
  | _, _, .nil => ⟨rfl, fun b hb => nomatch hb⟩
  | _, _, .cons h t => by
    obtain ⟨h1, h2⟩ := RpAll.each t
    refine ⟨congrArg (· + 1) h1, fun b hb => ?_⟩
    rcases List.mem_cons.mp hb with e | hb
    · subst e; exact h
    · exact h2 b hb
theorem RpAll.of_each {K : PySem.W.Frag} {G : Hp} : ∀ {bs : List (V × PD)}, (∀ b ∈ bs, Rp K G b.1 b.2) → RpAll K G (bs.map (·.1)) (bs.map (·.2))
  | [], _ => .nil
  | b :: bs, h => .cons (h b List.mem_cons_self) (RpAll.of_each fun c hc => h c (List.mem_cons_of_mem _ hc))
def dSorted : Dn := fun ds k => match ds with
  | [.lst xs] => (∀ x ∈ xs, x.plain = true) ∧ SortOk (xs.map PD.py) ∧ k (.own (.lst (xs.mergeSort leD)))
  | _ => False
theorem db_sorted (hu : X.cx.A.units + 66 < cLine) : DB X (.builtin "sorted") (rSortD X.K) dSorted := by
  refine ⟨call_sorted hu, fun B G H σ ρ xs ds Q QV R hv q k => ?_⟩
  match ds, hv, q with
  | [.lst ys], .cons h .nil, ⟨p, so, q⟩ =>
    obtain ⟨a, us, rfl, ha, ra⟩ := h.lst R.gh
    obtain ⟨e1, e2⟩ := RpAll.each ra
    obtain ⟨z1, z2⟩ := zip_fst e1
    refine ⟨a, us.zip ys, rfl, by rw [z1]; exact SqL.of ha, fun b hb => ?_, ?_, fun n hn => ?_⟩
    · refine Rp.dp R.gh (e2 b hb) (p _ ?_)
      rw [← z2]; exact List.mem_map.mpr ⟨b, hb, rfl⟩
    · have e : (us.zip ys).map (fun b => b.2.py) = ys.map PD.py := by
        conv => rhs; rw [← z2, List.map_map]
        rfl
      rw [e]; exact so
    · have r2 := RpAll.of_each (K := X.K.F) (G := G) (bs := (us.zip ys).mergeSort (PySem.W.dataLe false fun b => b.2.py)) fun b hb => e2 b (List.mem_mergeSort.mp hb)
      have e3 : ((us.zip ys).mergeSort (PySem.W.dataLe false fun b => b.2.py)).map (fun x => x.2) = ys.mergeSort leD := by
        have := List.map_mergeSort (r := PySem.W.dataLe false fun b : V × PD => b.2.py) (s := leD) (f := fun x : V × PD => x.2) (l := us.zip ys) (fun _ _ _ _ => rfl)
        rw [z2] at this
        exact this
      rw [e3] at r2
      exact k.new R hn (.lst r2) q
end
/-! ### a tuple over and over -/
theorem tup_same (l : Addr) (its : Array Value) (n : Nat) (dx : Option Addr) (so : Array (Option Value)) (u : Tok) :
    Meets (Builtin.«tuple.__mul__» ⟨[.ref l, .int 1 u], []⟩) (fun _ R s => s.heap.get? l = some { cls := .type "tuple", dict := dx, data := .seq its n, slots := so } ∧ R (.ok (.ret (Value.ref l))) s) :=
  .of_wp fun prog w A R s h => by
    obtain ⟨hp, gn, db, tk, os⟩ := s
    obtain ⟨hl, h⟩ := h
    have f1 := AutoSeq1.idx_int
    have one : (its.isEmpty || (1 : Int) == 1) = true := by rw [Bool.or_eq_true]; exact .inr rfl
    wp_walk using wpAny_loadPart' hl
    exact ⟨_, rfl, h⟩
theorem tup_none (l : Addr) (its : Array Value) (n : Nat) (dx : Option Addr) (so : Array (Option Value)) (x : Int) (u : Tok) (b0 : (decide (x < -(2 ^ 63)) || decide (x ≥ 2 ^ 63)) = false) (b1 : (its.isEmpty || x == 1) = false) (b2 : (decide (x ≤ 0) || its.isEmpty) = true) :
    Meets (Builtin.«tuple.__mul__» ⟨[.ref l, .int x u], []⟩) (fun _ R s => s.heap.get? l = some { cls := .type "tuple", dict := dx, data := .seq its n, slots := so } ∧
      R (.ok (.ret (Value.ref s.heap.objs.size))) { s with heap := s.heap.push { cls := Value.type "tuple", data := Data.seq #[] }, toks := s.toks }) :=
  .of_wp fun prog w A R s h => by
    obtain ⟨hp, gn, db, tk, os⟩ := s
    obtain ⟨hl, h⟩ := h
    have f1 := AutoSeq1.idx_int
    wp_walk using wpAny_loadPart' hl
    repeat (first
      | (refine wpAny_ite_false (decide_eq_false (by rw [b0]; exact nofun)) ?_; wp_walk using wpAny_loadPart' hl)
      | (refine wpAny_ite_false (decide_eq_false (by rw [b1]; exact nofun)) ?_; wp_walk using wpAny_loadPart' hl)
      | (refine wpAny_ite_true (decide_eq_true b2) ?_; wp_walk using wpAny_loadPart' hl))
    exact ⟨_, rfl, h⟩
def rTm (K : PySem.W.Frag) : R2 := fun x y H Q => ∃ l k xs, x = .ref l ∧ y = .int k ∧ SqT K H l xs ∧ xs ≠ [] ∧ -1000 ≤ k ∧ k ≤ 1000 ∧ xs.length ≤ 1000 ∧ (k = 1 → Q (.ref l) H) ∧ (k ≠ 1 → ∀ p, H p = none → Q (.ref p) (upd H p (.tup (List.replicate k.toNat xs).flatten)))
theorem op_tm {X : Cx} : OpR X (binaryOp .Mult) (rTm X.K) := by
  intro pins s σ H x y v u Q I rx ry h
  obtain ⟨l, k, xs, rfl, rfl, hT, ne, k0, k1, hz, q1, q2⟩ := h
  by_cases big : 2 ≤ k
  · exact op_repT pins s σ H _ _ v u Q I rx ry ⟨l, k, xs, rfl, rfl, hT, ne, big, k1, hz, q2 (by omega)⟩
  cases rx
  obtain ⟨t, rfl⟩ := ry
  obtain ⟨its, r, ⟨⟨cls, dx, data, so⟩, ho, hc, n, hd⟩, hs⟩ := I.tuple hT
  simp only at hc hd
  subst hc hd
  by_cases one : k = 1
  · subst one
    refine wpAny_binaryOp_repeat_ref (U := "int") (T := "tuple") (by decide) ⟨_, ho, rfl⟩ (fun s2 => typeIs_int s2 1 t) noFill_tuple_mul F.fills_int_mul F.slot_int_rmul repeat_tuple F.slot_int_index.lookup
      (call_meets F.slot_int_rmul (typeIs_int s 1 t) F.entry_int_rmul (F.args_int_rmul_2 _ _) (int_rmul_tuple 1 t l its.toArray n dx so)
        ⟨ho, rfl, ⟨_, ho, rfl⟩, call_meets F.slot_tuple_mul ⟨_, ho, rfl⟩ F.entry_tuple_mul (F.args_tuple_mul_2 _ _) (tup_same l its.toArray n dx so t) ⟨ho, ?_⟩⟩)
    exact ⟨.ref l, H, I, rfl, q1 rfl⟩
  · have low : k ≤ 0 := by omega
    have full : its.toArray.isEmpty = false := by
      cases its with
      | nil =>
        have := r.length
        exact absurd (List.eq_nil_of_length_eq_zero this) ne
      | cons a b => rfl
    have b0 : (decide (k < -(2 ^ 63)) || decide (k ≥ 2 ^ 63)) = false := by
      rw [decide_eq_false (by omega), decide_eq_false (by omega)]; rfl
    have b1 : (its.toArray.isEmpty || k == 1) = false := by
      rw [full, Bool.false_or]
      exact beq_eq_false_iff_ne.mpr one
    have b2 : (decide (k ≤ 0) || its.toArray.isEmpty) = true := by
      rw [decide_eq_true low]; rfl
    have kz : k.toNat = 0 := by omega
    have q3 := q2 one
    rw [kz] at q3
    refine wpAny_binaryOp_repeat_ref (U := "int") (T := "tuple") (by decide) ⟨_, ho, rfl⟩ (fun s2 => typeIs_int s2 k t) noFill_tuple_mul F.fills_int_mul F.slot_int_rmul repeat_tuple F.slot_int_index.lookup
      (call_meets F.slot_int_rmul (typeIs_int s k t) F.entry_int_rmul (F.args_int_rmul_2 _ _) (int_rmul_tuple k t l its.toArray n dx so)
        ⟨ho, rfl, ⟨_, ho, rfl⟩, call_meets F.slot_tuple_mul ⟨_, ho, rfl⟩ F.entry_tuple_mul (F.args_tuple_mul_2 _ _) (tup_none l its.toArray n dx so k t b0 b1 b2) ⟨ho, ?_⟩⟩)
    exact ⟨.ref s.heap.objs.size, upd H s.heap.objs.size (.tup []), I.laid (t' := s.toks) (o := .tup []) (fun _ _ z => Heap.get?_push_of_some _ z) (Nat.le_refl _) ⟨Nat.zero_le _, [], .nil, PyProof.Rows.IsTup.new _ _⟩, rfl, q3 _ (I.hok.fresh (Nat.le_refl _))⟩
theorem RpAll.plus {K : PySem.W.Frag} {G : Hp} : ∀ {us vs : List V} {ds es : List PD}, RpAll K G us ds → RpAll K G vs es → RpAll K G (us ++ vs) (ds ++ es)
  | _, _, _, _, .nil, h => h
  | _, _, _, _, .cons a b, h => .cons a (RpAll.plus b h)
theorem RpAll.times {K : PySem.W.Frag} {G : Hp} {us : List V} {ds : List PD} (h : RpAll K G us ds) : ∀ n : Nat, RpAll K G (List.replicate n us).flatten (List.replicate n ds).flatten
  | 0 => .nil
  | n + 1 => by
    rw [List.replicate_succ, List.replicate_succ, List.flatten_cons, List.flatten_cons]
    exact RpAll.plus h (RpAll.times h n)
def dTm : D2 := fun x y k => match x, y with
  | .tup xs, .int n => xs ≠ [] ∧ (-1000 ≤ n ∧ n ≤ 1000) ∧ xs.length ≤ 1000 ∧ k (.dat (.tup (List.replicate n.toNat xs).flatten))
  | _, _ => False
theorem ok2_tm {K : KT} : Ok2 K (rTm K.F) dTm := by
  intro B G H σ ρ x y dx dy Q QV R vx vy q k
  match dx, dy, vx, vy, q with
  | .tup ds, .int n, vx, vy, ⟨ne, ⟨n0, n1⟩, hz, q⟩ =>
    have w := vx.tupR
    obtain ⟨a, us, rfl, ha, ra⟩ := vx.tup R.gh
    have hl := (RpAll.each ra).1
    refine ⟨a, n, us, rfl, vy.int, ha, fun e => ne (by rw [e] at hl; exact List.eq_nil_of_length_eq_zero hl.symm), n0, n1, by omega, fun e => ?_, fun _ p hp => k.tup R hp (ra.times n.toNat) q⟩
    subst e
    have : (List.replicate (1 : Int).toNat ds).flatten = ds := by simp
    rw [this] at q
    exact k.dat R w q
section
variable {X : CxT}
theorem de_tm {a b : Expr} {pos : Pos} {ta tb : TE} {wa wb : We} (ha : DE X a ta wa) (hb : DE X b tb wb) : DE X (.BinOp a .Mult b pos) (tOp (rTm X.cx.K) ta tb) (wBin dTm wa wb) := ⟨pe_op op_tm ha.pe hb.pe, we_bin ok2_tm ha.we hb.we⟩
end
end DL

set_option Elab.async false
set_option linter.all false
set_option maxRecDepth 100000
set_option maxHeartbeats 2000000
namespace DL
open PySem L2 PySem.Spec PyProof.Rows
/-! ### zip of a list or a tuple with a list or a tuple (true: a list) -/
def SqX (K : PySem.W.Frag) (l : Bool) (H : Hp) (a : Addr) (xs : List V) : Prop := match l with
  | true => SqL K H a xs
  | false => SqT K H a xs
def ItX (l : Bool) (h : Heap) (it a : Addr) (i : Nat) : Prop := match l with
  | true => h.IsListIter it a i
  | false => h.IsTupleIter it a i
def SeqX (l : Bool) (h : Heap) (a : Addr) (its : Array Value) : Prop := match l with
  | true => h.IsList a its
  | false => h.IsTuple a its
def objX (l : Bool) (a : Addr) : Obj := match l with
  | true => { cls := .type "list_iterator", data := .fields #[.ref a, .int 0 0] }
  | false => { cls := .type "tuple_iterator", data := .fields #[.ref a, .int 0 0] }
theorem beg_x (l : Bool) (a : Addr) (its : Array Value) : Begins (.ref a) (objX l a) fun h => SeqX l h a its := match l with
  | true => begins_list a its
  | false => begins_tuple a its
theorem it_x {l : Bool} {h : Heap} {it a : Addr} (e : h.get? it = some (objX l a)) : ItX l h it a 0 := match l, e with
  | true, e => ⟨_, e, rfl, rfl⟩
  | false, e => ⟨_, e, rfl, rfl⟩
theorem ItX.moved {l : Bool} {h h' : Heap} {it a : Addr} {i : Nat} (s : ItX l h it a i) (k : ∀ o, h.get? it = some o → h'.get? it = some o) : ItX l h' it a i := match l, s with
  | true, s => Heap.IsListIter.at s k
  | false, s => Heap.IsTupleIter.at s k
theorem ItX.live {l : Bool} {h : Heap} {it a : Addr} {i : Nat} (s : ItX l h it a i) : ∃ o, h.get? it = some o ∧ ∀ v, o.data ≠ .cell v := match l, s with
  | true, ⟨o, e, _, d⟩ => ⟨o, e, fun v q => by rw [d] at q; cases q⟩
  | false, ⟨o, e, _, d⟩ => ⟨o, e, fun v q => by rw [d] at q; cases q⟩
theorem draw_x {prog : Program} {w : World} {A : Around} (hh : A.handled = none) (l : Bool) (it a : Addr) (hne : a ≠ it) (its : Array Value) :
    Draws prog w A it [it, a] its.size (fun i v => its[i]? = some v) (fun i h => ItX l h it a i ∧ SeqX l h a its) := match l with
  | true => Draws.list hh it a hne its
  | false => Draws.tuple hh it a hne its
theorem draw_xe {prog : Program} {w : World} {A : Around} (hh : A.handled = none) (l : Bool) (it a : Addr) (its : Array Value) (i : Nat) (hi : its[i]? = none) :
    Draws prog w A it [it, a] i (fun _ _ => True) (fun j h => j = i ∧ ItX l h it a i ∧ SeqX l h a its) where
  live := fun _ _ st => let ⟨o, ho, _⟩ := st.2.1.live; ⟨o, ho⟩
  frame := fun _ _ _ st hk => ⟨st.1, st.2.1.moved fun o e => hk it (by simp) o e, match l, st.2.2 with
    | true, z => Heap.IsList.at z fun o e => hk a (by simp) o e
    | false, z => Heap.IsTuple.at z fun o e => hk a (by simp) o e⟩
  item := fun j s Q E hj st hQ => absurd st.1 (by omega)
  done := fun s Q E st hE => match l, st.2 with
    | true, st => wpAny_nextOf_list_end hh st.1 st.2 hi hE
    | false, st => wpAny_nextOf_tuple_end hh st.1 st.2 hi hE
theorem SqX.seq {X : Cx} {pins : List (Addr × Obj)} {σ : L2.St} {H : Hp} {s : Shared} {l : Bool} {a : Addr} {xs : List V} (I : Inv X pins σ H s) (h : SqX X.K l H a xs) : ∃ its : List Value, Vals xs its ∧ SeqX l s.heap a its.toArray ∧ a < s.heap.objs.size := match l, h with
  | true, h => let ⟨its, rv, p, _⟩ := I.list h; ⟨its, rv, p.isList, p.lt⟩
  | false, h => let ⟨its, rv, p, _⟩ := I.tuple h; ⟨its, rv, p, by obtain ⟨_, q, _⟩ := id p; exact Heap.lt_size q⟩
theorem SqX.inj {X : Cx} {pins : List (Addr × Obj)} {σ : L2.St} {H : Hp} {s : Shared} {l : Bool} {a : Addr} {xs ys : List V} (I : Inv X pins σ H s) (h : SqX X.K l H a xs) (h' : SqX X.K l H a ys) : xs = ys := match l, h, h' with
  | true, h, h' => I.list_inj h h'
  | false, h, h' => I.tuple_inj h h'
def ItzM (K : PySem.W.Frag) (l l' : Bool) (a b : Addr) : It :=
  ⟨fun i H => ∃ (xs ys : List V) (x y : V), SqX K l H a xs ∧ SqX K l' H b ys ∧ xs[i]? = some x ∧ ys[i]? = some y,
    fun i H v H' => ∃ t x y, v = .ref t ∧ H t = none ∧ H' = upd H t (.tup [x, y]) ∧ (∀ xs, SqX K l H a xs → xs[i]? = some x) ∧ ∀ ys, SqX K l' H b ys → ys[i]? = some y,
    fun i H => ∃ xs ys : List V, SqX K l H a xs ∧ SqX K l' H b ys ∧ (xs.length ≤ i ∨ ys.length ≤ i)⟩
structure Sep (z TI TO i1 i2 a b : Addr) : Prop where
  S : ZipSep2 z TI TO i1 i2 [i1, a] [i2, b]
  n1 : a ≠ i1
  n2 : b ≠ i2
theorem turn_zipM {P : Program} {w : World} {K : PySem.W.Frag} {elts : List Expr} {kk : Nat} {tpos : Pos} {l l' : Bool} {a b z TI TO i1 i2 : Addr} (D : Sep z TI TO i1 i2 a b) :
    Turn P w K (.Tuple elts kk tpos) (ItzM K l l' a b) [z, TI, TO, i1, i2] z (fun i h => IsZip h z TI TO .none ∧ IsTupOf2 h TI (.ref i1) (.ref i2) ∧ (∃ x y, IsTupOf2 h TO x y) ∧ ItX l h i1 a i ∧ ItX l' h i2 b i) where
  mem := by simp
  obj := fun i h st c hc => by
    obtain ⟨hz, hTI, ⟨x, y, hTO⟩, h1, h2⟩ := st
    rcases (show c = z ∨ c = TI ∨ c = TO ∨ c = i1 ∨ c = i2 by simpa using hc) with rfl | rfl | rfl | rfl | rfl
    · exact ⟨_, hz, fun v q => nomatch q⟩
    · exact ⟨_, hTI, fun v q => nomatch q⟩
    · exact ⟨_, hTO, fun v q => nomatch q⟩
    · exact h1.live
    · exact h2.live
  keep := fun i h h' st k => by
    obtain ⟨hz, hTI, ⟨x, y, hTO⟩, h1, h2⟩ := st
    exact ⟨k z (by simp) _ hz, k TI (by simp) _ hTI, ⟨x, y, k TO (by simp) _ hTO⟩, h1.moved fun o q => k i1 (by simp) o q, h2.moved fun o q => k i2 (by simp) o q⟩
  item := by
    intro X hP hw hK hc i pins s σ H E I hf st hg
    subst hP hw hK
    obtain ⟨hz, hTI, ⟨x0, y0, hTO⟩, h1, h2⟩ := st
    obtain ⟨xs, ys, x, y, hqx, hqy, hx, hy⟩ := hg
    obtain ⟨us, rv, p1, _⟩ := SqX.seq I hqx
    obtain ⟨ws, rv2, p2, _⟩ := SqX.seq I hqy
    obtain ⟨u, hu, ru⟩ := rv.get hx
    obtain ⟨v, hv, rw'⟩ := rv2.get hy
    have hu' : us.toArray[i]? = some u := by simpa using hu
    have hv' : ws.toArray[i]? = some v := by simpa using hv
    have zl : z < s.heap.objs.size := Heap.lt_size hz
    have Da := draw_x (prog := X.prog) (w := X.w) (A := X.A.in1) (show X.A.in1.handled = none from I.ok.hd hc) l i1 a D.n1 us.toArray
    have Db := draw_x (prog := X.prog) (w := X.w) (A := X.A.in1) (show X.A.in1.handled = none from I.ok.hd hc) l' i2 b D.n2 ws.toArray
    refine wpAny_pyNext_zipD2_item D.S Da Db hz hTI hTO ⟨h1, p1⟩ ⟨h2, p2⟩ (Array.getElem?_eq_some_iff.mp hu').1 (Array.getElem?_eq_some_iff.mp hv').1 fun x1 x2 h' tk q1 q2 z' TO' s1 s2 hT hsz hk => ?_
    have e1 : x1 = u := Option.some.inj (q1.symm.trans hu')
    have e2 : x2 = v := Option.some.inj (q2.symm.trans hv')
    subst e1 e2
    refine ⟨_, rfl, wpAny_letOwnedTupleGo_zip (s := { s with heap := h', toks := tk }) z' fun h'' z'' sb => ?_⟩
    have hT2 : h''.get? s.heap.objs.size = some { cls := .type "tuple", data := .seq #[x1, x2] } := (sb.2 _ (Nat.ne_of_gt zl)).trans hT
    have made : ObjOk X.prog X.w (upd H s.heap.objs.size (.tup [x, y])) h'' s.heap.objs.size (.tup [x, y]) := ⟨by show 2 ≤ sizeLine; decide, [x1, x2], .cons ru (.cons rw' .nil), ⟨_, hT2, rfl, _, rfl⟩⟩
    have I1 : Inv X pins σ (upd H s.heap.objs.size (.tup [x, y])) { s with heap := h'', toks := tk } :=
      I.turnedNew (t' := tk) (ch := [z, TI, TO, i1, i2]) (fun c o hb q => (sb.2 c (fun e => hb (by simp [e]))).trans (hk c o (fun e => hb (by simp [e])) (fun e => hb (by simp [e])) (fun e => hb (by simp [e])) (fun e => hb (by simp [e])) q)) hf (Nat.le_refl _) made
    refine ⟨.ref s.heap.objs.size, _, I1, rfl, ⟨_, x, y, rfl, I.hok.fresh (Nat.le_refl _), rfl, fun m hm => by rw [SqX.inj I hm hqx]; exact hx, fun m hm => by rw [SqX.inj I hm hqy]; exact hy⟩, ⟨z'', ?_, ⟨x1, x2, ?_⟩, ?_, ?_⟩, fun c hcm => ?_⟩
    · exact (sb.2 _ D.S.TIz).trans (hk _ _ D.S.TIz D.S.TITO D.S.TIi1 D.S.TIi2 hTI)
    · exact (sb.2 _ D.S.TOz).trans TO'
    · exact s1.1.moved fun o q => (sb.2 _ (Ne.symm D.S.zi1)).trans q
    · exact s2.1.moved fun o q => (sb.2 _ (Ne.symm D.S.zi2)).trans q
    · have hlt : c < s.heap.objs.size := by
        rcases (show c = z ∨ c = TI ∨ c = TO ∨ c = i1 ∨ c = i2 by simpa using hcm) with rfl | rfl | rfl | rfl | rfl
        · exact zl
        · exact Heap.lt_size hTI
        · exact Heap.lt_size hTO
        · obtain ⟨_, e, _⟩ := h1.live; exact Heap.lt_size e
        · obtain ⟨_, e, _⟩ := h2.live; exact Heap.lt_size e
      rw [upd_ne (Nat.ne_of_lt hlt)]
      exact (hf c hcm).1
  done := by
    intro X hP hw hK hc i pins s σ H E I hf st hg
    subst hP hw hK
    obtain ⟨hz, hTI, ⟨x0, y0, hTO⟩, h1, h2⟩ := st
    obtain ⟨xs, ys, hqx, hqy, hend⟩ := hg
    obtain ⟨us, rv, p1, _⟩ := SqX.seq I hqx
    obtain ⟨ws, rv2, p2, _⟩ := SqX.seq I hqy
    have l1 := rv.length
    have l2 := rv2.length
    have hh : X.A.in1.handled = none := I.ok.hd hc
    have fin : ∀ h' tk, (∀ c o, c ≠ z → c ≠ TO → c ≠ i1 → c ≠ i2 → s.heap.get? c = some o → h'.get? c = some o) → (fun (r : Option Value) s' => r = none ∧ Inv X pins σ H s') none { s with heap := h', toks := tk } := fun h' tk hk => ⟨rfl, I.turnedL (t' := tk) (ch := [z, TI, TO, i1, i2]) (fun c o hb q =>
      hk c o (fun e => hb (by simp [e])) (fun e => hb (by simp [e])) (fun e => hb (by simp [e])) (fun e => hb (by simp [e])) q) hf⟩
    by_cases c1 : xs.length ≤ i
    · have Da := draw_xe (prog := X.prog) (w := X.w) hh l i1 a us.toArray i (by simp; omega)
      by_cases c2 : ys.length ≤ i
      · exact wpAny_pyNext_zipD2_end D.S Da (draw_xe (prog := X.prog) (w := X.w) hh l' i2 b ws.toArray i (by simp; omega)) hz hTI hTO ⟨rfl, h1, p1⟩ ⟨rfl, h2, p2⟩ (Nat.le_refl _) (Nat.le_refl _) (.inl rfl) fin
      · exact wpAny_pyNext_zipD2_end D.S Da (draw_x hh l' i2 b D.n2 ws.toArray) hz hTI hTO ⟨rfl, h1, p1⟩ ⟨h2, p2⟩ (Nat.le_refl _) (by simp; omega) (.inl rfl) fin
    · have c2 : ys.length ≤ i := hend.resolve_left c1
      exact wpAny_pyNext_zipD2_end D.S (draw_x hh l i1 a D.n1 us.toArray) (draw_xe (prog := X.prog) (w := X.w) hh l' i2 b ws.toArray i (by simp; omega)) hz hTI hTO ⟨h1, p1⟩ ⟨rfl, h2, p2⟩ (by simp; omega) (Nat.le_refl _) (.inr rfl) fin
  self := fun A i s Q E st h => wpAny_pyIter_zip st.1 h
theorem addr_ne {x y : Nat} (h : x < y ∨ y < x) : (x : Addr) ≠ (y : Addr) := fun e => by
  have e : x = y := e
  omega
theorem not_in2 {x y z : Addr} (h : x ≠ y) (h' : x ≠ z) : x ∉ [y, z] := fun m => by
  rcases List.mem_cons.mp m with e | m
  · exact h e
  · rcases List.mem_cons.mp m with e | m
    · exact h' e
    · cases m
theorem sep_of (I a b : Nat) (h1 : a < I) (h2 : b < I) : Sep (I + 4) (I + 2) (I + 3) I (I + 1) a b where
  S := {
    TIz := addr_ne (by omega)
    TOz := addr_ne (by omega)
    TITO := addr_ne (by omega)
    TIi1 := addr_ne (by omega)
    mem1 := List.mem_cons_self
    zf1 := not_in2 (addr_ne (by omega)) (addr_ne (by omega))
    Tf1 := not_in2 (addr_ne (by omega)) (addr_ne (by omega))
    TIi2 := addr_ne (by omega)
    mem2 := List.mem_cons_self
    zf2 := not_in2 (addr_ne (by omega)) (addr_ne (by omega))
    Tf2 := not_in2 (addr_ne (by omega)) (addr_ne (by omega))
    sep1_2 := not_in2 (addr_ne (by omega)) (addr_ne (by omega))
    sep2_1 := not_in2 (addr_ne (by omega)) (addr_ne (by omega)) }
  n1 := addr_ne (by omega)
  n2 := addr_ne (by omega)
def iZipX (K : PySem.W.Frag) (ta : TA) : TI := fun σ H R => ta σ H fun vs H1 => ∃ a b xs ys l l', vs = [.ref a, .ref b] ∧ SqX K l H1 a xs ∧ SqX K l' H1 b ys ∧ R (ItzM K l l' a b) H1
theorem pi_zipX {X : Cx} {e e2 : Expr} {ta : TA} {p pos tpos : Pos} {elts : List Expr} {kk : Nat} (hg : Gl X "zip") (hm : X.mg "zip" = none) (ha : PA X [e, e2] ta)
    (hs : starEach [e, e2] X.env = (false, eval e X.env) :: starEach [e2] X.env := by rfl) (hpl : (backTo pos (starEach [e2] X.env)).any (·.1) = false := by rfl) :
    PI X (.Tuple elts kk tpos) (.Call (.Name "zip" p) [e, e2] [] pos) (iZipX X.K ta) := by
  refine ⟨fun pins s σ H R I hh => ?_⟩
  refine Call_ (ld_blt I hg hm boot_zip (PyProof.Rows.callWith_type1 (thn (ha.run pos pins s σ H _ I hh) fun us s1 ⟨vs, H1, I1, r1, a, b, xs, ys, l, l', ev, hqx, hqy, q⟩ => ?_) hs hpl))
  subst ev
  cases r1 with
  | cons r rr =>
    cases rr with
    | cons r' rr =>
      cases rr; cases r; cases r'
      obtain ⟨ms, rv, p1, lt1⟩ := SqX.seq I1 hqx
      obtain ⟨ns, rv2, p2, lt2⟩ := SqX.seq I1 hqy
      have fp : ∀ c ∈ [s1.heap.objs.size + 4, s1.heap.objs.size + 2, s1.heap.objs.size + 3, s1.heap.objs.size, s1.heap.objs.size + 1], s1.heap.objs.size ≤ c := fun c hc => by
        rcases (show c = s1.heap.objs.size + 4 ∨ c = s1.heap.objs.size + 2 ∨ c = s1.heap.objs.size + 3 ∨ c = s1.heap.objs.size ∨ c = s1.heap.objs.size + 1 by simpa using hc) with rfl | rfl | rfl | rfl | rfl <;> omega
      refine zip_begins2 (beg_x l a ms.toArray) (beg_x l' b ns.toArray) p1 p2 fun h' hz hTI hTO g1 g2 hsz hk => wpAny_pyIter_zip hz ?_
      exact ⟨s1.heap.objs.size + 4, [s1.heap.objs.size + 4, s1.heap.objs.size + 2, s1.heap.objs.size + 3, s1.heap.objs.size, s1.heap.objs.size + 1], _, _, H1, rfl, I1.kept (t' := s1.toks) hk, turn_zipM (sep_of _ a b lt1 lt2), ⟨hz, hTI, ⟨_, _, hTO⟩, it_x g1, it_x g2⟩, fun c hc => I1.fpOk (fp c hc) (I1.hok.fresh (fp c hc)), q⟩
section
variable {X : CxT} {K : KT} {e e2 : Expr} {p pos : Pos}
theorem it_zipX {G0 : Hp} {l l' : Bool} {q q' : Addr} {vs ws : List V} {ds es : List PD} (hG : ∀ G H, Ex G0 G → Ex G H → SqX K l H q vs ∧ SqX K l' H q' ws) (hi : ∀ (H : Hp) (xs : List V), True) (r : RpAll K G0 vs ds) (r' : RpAll K G0 ws es) : ItOk K G0 (ItzM K l l' q q') (zipP ds es) := fun B σ ρ G H e R => by
  obtain ⟨hq, hq'⟩ := hG G H e R.gh
  refine ⟨fun i hi => ⟨vs, ws, hq, hq', by rw [r.length, r'.length]; exact zipP_len hi⟩, fun i d hd => ?_⟩
  obtain ⟨x, y, hx, hy, rfl⟩ := zipP_get hd
  obtain ⟨v, hv, rv⟩ := r.get hx
  obtain ⟨w, hw, rw'⟩ := r'.get hy
  refine ⟨⟨vs, ws, v, w, hq, hq', hv, hw⟩, fun z H' ⟨t, x1, y1, ez, ht, eH, h1, h2⟩ => ?_⟩
  have e1 := h1 vs hq
  have e2 := h2 ws hq'
  rw [hv] at e1; cases e1
  rw [hw] at e2; cases e2
  subst ez; subst eH
  exact fresh_tup R ht (.cons (rv.mono e) (.cons (rw'.mono e) .nil))
/-- the items of a list, of a tuple -/
def seqP : PD → Option (List PD)
  | .lst xs => some xs
  | .tup xs => some xs
  | _ => none
def wZipX (wa : Wa) : Wi := fun ρ Q => wa ρ fun rs ρ1 => frz rs ρ1 fun ds ρ2 => match ds with
  | [d, d'] => ok (seqP d) fun xs => ok (seqP d') fun ys => Q (zipP xs ys) ρ2
  | _ => False
theorem seq_x {G : Hp} {v : V} {d : PD} {xs : List PD} (h : Rp K G v d) (e : seqP d = some xs) : ∃ a vs l, v = .ref a ∧ RpAll K G vs xs ∧ ∀ H, Ex G H → SqX K l H a vs := by
  cases h with
  | lst hg r => cases e; exact ⟨_, _, true, rfl, r, fun H x => SqL.of (x _ _ hg nt_lst)⟩
  | tup hg r => cases e; exact ⟨_, _, false, rfl, r, fun H x => ex_t x hg⟩
  | _ => cases e
theorem wi_zipX {t : TA} {wa : Wa} (h : WAa K t wa) : WIi K (iZipX K t) (wZipX wa) := fun B G H σ ρ Q QJ R q k =>
  h B G H σ ρ _ _ R q fun vs G1 H1 ρ1 rs S1 R1 rr q1 => by
    obtain ⟨⟨ds, ρ2⟩, e, q1⟩ := ok_some q1
    obtain ⟨G2, S2, R2, ra⟩ := frz_all R1 rr e
    match ds, ra, q1 with
    | [d, d'], .cons r1 (.cons r2 .nil), q1 =>
      obtain ⟨xs, e1, q1⟩ := ok_some q1
      obtain ⟨ys, e2, q1⟩ := ok_some q1
      obtain ⟨a, us, l, rfl, ra, sa⟩ := seq_x r1 e1
      obtain ⟨b, ws, l', rfl, rb, sb⟩ := seq_x r2 e2
      exact ⟨a, b, us, ws, l, l', rfl, sa _ R2.gh, sb _ R2.gh, k _ G2 H1 ρ2 _ (S1.trans S2) R2 (it_zipX (fun G' H' e e' => ⟨sa _ (e.trans e'), sb _ (e.trans e')⟩) (fun _ _ => trivial) ra rb) q1⟩
theorem di_zipX {t : TA} {wa : Wa} {elts : List Expr} {kk : Nat} {tpos : Pos} (hm : X.mg "zip" = none) (ha : DA X [e, e2] t wa) (hg : Gl X "zip" := by rfl) (hs : starEach [e, e2] X.env = (false, eval e X.env) :: starEach [e2] X.env := by rfl) (hpl : (backTo pos (starEach [e2] X.env)).any (·.1) = false := by rfl) :
    DI X (.Tuple elts kk tpos) (.Call (.Name "zip" p) [e, e2] [] pos) (iZipX X.K t) (wZipX wa) := ⟨pi_zipX hg hm ha.pa hs hpl, wi_zipX ha.wa⟩
end
end DL

set_option Elab.async false
set_option linter.all false
set_option maxRecDepth 100000
set_option maxHeartbeats 4000000
set_option exponentiation.threshold 3000
namespace DL
open PySem L2
/-! ### reckoning with slots -/
theorem backS_nb {ρ : Sl} {rs : List Rz} {as : Sl} (h : rs.all (fun r => match r with | .bor _ => false | _ => true) = true) : backS ρ rs as = ρ := by
  unfold backS
  refine List.ext_getElem? fun i => ?_
  rw [List.getElem?_mapIdx]
  cases ρ[i]? with
  | none => rfl
  | some s =>
    cases s with
    | own o =>
      have : rs.findIdx? (isBor i) = none := List.findIdx?_eq_none_iff.mpr fun r hr => by
        have := List.all_eq_true.mp h r hr
        cases r <;> first | rfl | (cases this)
      simp only [this, Option.map_some]
    | _ => rfl
theorem backS_0 {ρ as : Sl} : backS ρ [] as = ρ := backS_nb rfl
theorem backS_1 {ρ as : Sl} {a : PD} : backS ρ [.dat a] as = ρ := backS_nb rfl
theorem backS_2 {ρ as : Sl} {a b : PD} : backS ρ [.dat a, .dat b] as = ρ := backS_nb rfl
theorem backS_3 {ρ as : Sl} {a b c : PD} : backS ρ [.dat a, .dat b, .dat c] as = ρ := backS_nb rfl
theorem backS_4 {ρ as : Sl} {a b c d : PD} : backS ρ [.dat a, .dat b, .dat c, .dat d] as = ρ := backS_nb rfl
theorem backS_o {ρ : Sl} {rs : List Rz} {as : Sl} {k : Nat} {o : OD} (hk : ρ[k]? = some (.own o)) (h : rs.all (fun r => match r with | .bor _ => false | _ => true) = true) : backS ρ (.bor k :: rs) as = ρ.set k (as.getD 0 .emp) := by
  unfold backS
  refine List.ext_getElem? fun i => ?_
  rw [List.getElem?_mapIdx]
  have none_ : ∀ i, rs.findIdx? (isBor i) = none := fun i => List.findIdx?_eq_none_iff.mpr fun r hr => by
    have := List.all_eq_true.mp h r hr
    cases r <;> first | rfl | (cases this)
  by_cases hi : i = k
  · subst hi
    have hl := (List.getElem?_eq_some_iff.mp hk).1
    rw [hk, List.getElem?_set_self hl]
    have : (Rz.bor i :: rs).findIdx? (isBor i) = some 0 := by simp [List.findIdx?_cons, isBor]
    simp only [this, Option.map_some]
  · rw [List.getElem?_set_ne (Ne.symm hi)]
    cases ρ[i]? with
    | none => rfl
    | some s =>
      cases s with
      | own o =>
        have : (Rz.bor k :: rs).findIdx? (isBor i) = none := by
          rw [List.findIdx?_cons]
          have : isBor i (.bor k) = false := by unfold isBor; simp; exact fun z => hi z.symm
          rw [this, none_ i]; rfl
        simp only [this, Option.map_some]
      | _ => rfl
theorem backS_o0 {ρ as : Sl} {k : Nat} {o : OD} (hk : ρ[k]? = some (.own o)) : backS ρ [.bor k] as = ρ.set k (as.getD 0 .emp) := backS_o hk rfl
theorem backS_o1 {ρ as : Sl} {k : Nat} {o : OD} {a : PD} (hk : ρ[k]? = some (.own o)) : backS ρ [.bor k, .dat a] as = ρ.set k (as.getD 0 .emp) := backS_o hk rfl
theorem backS_o2 {ρ as : Sl} {k : Nat} {o : OD} {a b : PD} (hk : ρ[k]? = some (.own o)) : backS ρ [.bor k, .dat a, .dat b] as = ρ.set k (as.getD 0 .emp) := backS_o hk rfl
theorem backS_o3 {ρ as : Sl} {k : Nat} {o : OD} {a b c : PD} (hk : ρ[k]? = some (.own o)) : backS ρ [.bor k, .dat a, .dat b, .dat c] as = ρ.set k (as.getD 0 .emp) := backS_o hk rfl
theorem ty_non : PD.ty .non = some "NoneType" := rfl
theorem ty_bl {b : Bool} : PD.ty (.bl b) = some "bool" := rfl
theorem ty_int {i : Int} : PD.ty (.int i) = some "int" := rfl
theorem ty_str {x : Str} : PD.ty (.str x) = some "str" := rfl
theorem ty_lst {xs : List PD} : PD.ty (.lst xs) = some "list" := rfl
theorem ty_scr {ns : List Int} : PD.ty (.scr ns) = some "list" := rfl
theorem ty_tup {xs : List PD} : PD.ty (.tup xs) = some "tuple" := rfl
theorem ty_dct {ks : List (Key × PD)} : PD.ty (.dct ks) = some "dict" := rfl
theorem atI0a {α : Type} {x : α} : atI [x] 0 = some x := rfl
theorem atI0b {α : Type} {x y : α} : atI [x, y] 0 = some x := rfl
theorem atI0c {α : Type} {x y z : α} : atI [x, y, z] 0 = some x := rfl
theorem atI1b {α : Type} {x y : α} : atI [x, y] 1 = some y := rfl
theorem atI1c {α : Type} {x y z : α} : atI [x, y, z] 1 = some y := rfl
theorem atI2c {α : Type} {x y z : α} : atI [x, y, z] 2 = some z := rfl
theorem cmp_int (i : Int) : cmpOk (.int i) := ⟨rfl, rfl⟩
theorem cmp_bl (b : Bool) : cmpOk (.bl b) := ⟨rfl, rfl⟩
theorem cmp_str {s : Str} (h : PyData.strOk s = true) : cmpOk (.str s) := ⟨rfl, by simp [PD.py, SeqAt.shaped, PyData.canLay0, PyData.depth, h]⟩
theorem dEq_int {i j : Int} {k : Rz → Prop} : dEq (.int i) (.int j) k = k (.dat (.bl (decide (i = j)))) := by
  unfold dEq
  have e : PyData.eqv (PD.int i).py (PD.int j).py = decide (i = j) := by simp only [PD.py, PyData.eqv]; by_cases h : i = j <;> simp [h]
  rw [e]
  simp [cmp_int]
theorem dNeX_int {i j : Int} {k : Rz → Prop} : dNeX (.int i) (.int j) k = k (.dat (.bl (decide (i ≠ j)))) := by
  show dNe (.int i) (.int j) k = _
  unfold dNe
  have e : PyData.eqv (PD.int i).py (PD.int j).py = decide (i = j) := by simp only [PD.py, PyData.eqv]; by_cases h : i = j <;> simp [h]
  rw [e]
  simp [cmp_int]
theorem dEq_str {s t : Str} {k : Rz → Prop} (hs : PyData.strOk s = true) (ht : PyData.strOk t = true) : dEq (.str s) (.str t) k = k (.dat (.bl (decide (s = t)))) := by
  unfold dEq
  have e : PyData.eqv (PD.str s).py (PD.str t).py = decide (s = t) := by simp only [PD.py, PyData.eqv]; by_cases h : s = t <;> simp [h]
  rw [e]
  simp [cmp_str hs, cmp_str ht]
theorem dNeX_str {s t : Str} {k : Rz → Prop} (hs : PyData.strOk s = true) (ht : PyData.strOk t = true) : dNeX (.str s) (.str t) k = k (.dat (.bl (decide (s ≠ t)))) := by
  show dNe (.str s) (.str t) k = _
  unfold dNe
  have e : PyData.eqv (PD.str s).py (PD.str t).py = decide (s = t) := by simp only [PD.py, PyData.eqv]; by_cases h : s = t <;> simp [h]
  rw [e]
  simp [cmp_str hs, cmp_str ht]
/-! ### numbers within the bits that the machine bears -/
theorem bits_le (i : Int) : Builtin.Int.intBits i ≤ i.natAbs.log2 + 1 := by
  unfold Builtin.Int.intBits
  split <;> omega
theorem bits_of {i : Int} {k : Nat} (h : i.natAbs < 2 ^ k) : Builtin.Int.intBits i ≤ k + 1 := by
  have h1 := bits_le i
  have h2 : i.natAbs.log2 ≤ k := by
    by_cases h0 : i.natAbs = 0
    · rw [h0]; simp
    · exact Nat.le_of_lt ((Nat.log2_lt h0).mpr h)
  omega
/-- far below the machine's limits -/
def Sm (i : Int) : Prop := i.natAbs < 2 ^ 2000
theorem mulX {i j : Int} (h : Sm i) (h' : Sm j) : CMulX i j := by
  have h1 := bits_of h
  have h2 := bits_of h'
  unfold CMulX
  omega
theorem powX {i : Int} {j : Int} (h : Sm i) (h0 : 0 ≤ j) (h' : j ≤ 60) : CPowX i j := by
  have h1 := bits_of h
  refine ⟨h0, ?_⟩
  have h2 : (Builtin.Int.intBits i : Int) ≤ 2001 := by omega
  calc (Builtin.Int.intBits i : Int) * j ≤ 2001 * 60 := Int.mul_le_mul h2 h' h0 (by decide)
    _ ≤ 2 ^ 27 := by decide
theorem sm_big {i : Int} (h : i.natAbs < 2 ^ 128) : Sm i := Nat.lt_of_lt_of_le h (Nat.pow_le_pow_right (by decide) (by decide))
theorem log_sm {n : Int} (h : Sm n) : n.natAbs.log2 < 2000 := by
  by_cases h0 : n.natAbs = 0
  · rw [h0]; simp
  · exact (Nat.log2_lt h0).mpr h
theorem divX {i n : Int} (h0 : 0 < n) (h : Sm n) : CDivW i n := ⟨h0, by have := log_sm h; omega⟩
theorem emod_rng {x n : Int} (h : 0 < n) : 0 ≤ x % n ∧ x % n < n := ⟨Int.emod_nonneg x (by omega), Int.emod_lt_of_pos x h⟩
theorem sz {n : Nat} (h : n ≤ 100000) : n ≤ sizeLine := by rw [sizeLine_eq]; omega
theorem sz' {n : Nat} (h : n < 100000) : n < sizeLine := by rw [sizeLine_eq]; omega
theorem warmI {r : Rz} {ρ : Sl} {d : PD} (h : r.pd ρ = some d) : r.cold = true ∨ ∃ d, r.pd ρ = some d := .inr ⟨d, h⟩
theorem atI_of {α : Type} {xs : List α} {d : Int} (h0 : 0 ≤ d) (h1 : d < xs.length) : ∃ x, atI xs d = some x ∧ xs[d.toNat]? = some x := by
  have hl : d.toNat < xs.length := by omega
  refine ⟨xs[d.toNat], ?_, List.getElem?_eq_getElem hl⟩
  unfold atI ixN
  rw [if_pos h0, if_pos h1]
  exact List.getElem?_eq_getElem hl
/-! ### pots -/
/-- a pot: its cell, its mixed number, how often it was mixed -/
def PotI (m a b c : Int) : Prop := 0 ≤ a ∧ 0 ≤ b ∧ b < 2305843009213693952 ∧ 0 ≤ c ∧ c ≤ m
def Pot (m : Int) (s : SD) : Prop := ∃ a b c, s = .own (.lst [.int a, .int b, .int c]) ∧ PotI m a b c
theorem Pot.mono {m m' : Int} {s : SD} (h : Pot m s) (hm : m ≤ m') : Pot m' s := by
  obtain ⟨a, b, c, e, h1, h2, h3, h4, h5⟩ := h
  exact ⟨a, b, c, e, h1, h2, h3, h4, by omega⟩
theorem Pot.own {m : Int} {s : SD} (h : Pot m s) : ∃ o, s = .own o := by obtain ⟨a, b, c, e, _⟩ := h; exact ⟨_, e⟩
theorem primes (k : Int) (h0 : 0 ≤ k) (h1 : k < 5) : ∃ p : Int, atI [PD.int 2147483647, PD.int 2147483629, PD.int 2147483587, PD.int 2147483579, PD.int 2147483563] k = some (.int p) ∧ 0 < p ∧ p < 2147483648 := by
  have : k = 0 ∨ k = 1 ∨ k = 2 ∨ k = 3 ∨ k = 4 := by omega
  rcases this with rfl | rfl | rfl | rfl | rfl
  · exact ⟨_, rfl, by decide, by decide⟩
  · exact ⟨_, rfl, by decide, by decide⟩
  · exact ⟨_, rfl, by decide, by decide⟩
  · exact ⟨_, rfl, by decide, by decide⟩
  · exact ⟨_, rfl, by decide, by decide⟩
theorem ix0 : ixN 3 0 = some 0 := rfl
theorem ix2 : ixN 3 2 = some 2 := rfl
theorem pinned2 {x y : SD} (h : ∀ o, y ≠ .own o) : pinned (pin [0, 1]) [x, y] := fun i o e => by
  match i, e with
  | 0, _ => rfl
  | 1, e => cases e; exact absurd rfl (h o)
theorem pinned1 {x : SD} : pinned (pin [0]) [x] := fun i o e => by
  match i, e with
  | 0, _ => rfl
def wTake (A B : Int) : Ws := (wSeq (wIfS (wB (wBin (dI0 fun i j => .bl (decide (j < i))) (wBin dIx (wVar 0) (wC (.int 0))) (wC (.int 0)))) (wSeq (wSetF 4 (wBin (dI CPos fun i j => .int (i % j)) (wCB dInt (wCons (wBin dIx (wVar 0) (wC (.int 0))) wNil)) (wVar 1)))
  (wSeq (wSetIx 0 (wBin (dI CDivW fun i j => .int (i / j)) (wBin dIx (wVar 0) (wC (.int 0))) (wVar 1)) (wC (.int 0)))
  (wRet (wVar 4)))) wNext)
  (wSeq (wSetIx 0 (wBin dAdd (wBin dIx (wVar 0) (wC (.int 2))) (wC (.int 1))) (wC (.int 2)))
  (wSeq (wSetF 2 (wBin dIx (wLst (wCons (wC (.int 2147483647)) (wCons (wC (.int 2147483629)) (wCons (wC (.int 2147483587)) (wCons (wC (.int 2147483579)) (wCons (wC (.int 2147483563)) wNil)))))) (wBin (dI CPos fun i j => .int (i % j)) (wCB dInt (wCons (wBin dIx (wVar 0) (wC (.int 2))) wNil)) (wC (.int 5)))))
  (wSeq (wSetF 3 (wBin (dI CPos fun i j => .int (i % j)) (wCB dInt (wCons (wBin (dI CPowX fun i j => .int (i ^ j.toNat)) (wCB dInt (wCons (wBin dAdd (wBin dAdd (wBin dIx (wVar 0) (wC (.int 1))) (wBin (dI CMulX fun i j => .int (i * j)) (wBin (dI CMulX fun i j => .int (i * j)) (wC (.int A)) (wBin dIx (wVar 0) (wC (.int 2)))) (wBin dIx (wVar 0) (wC (.int 2))))) (wC (.int B))) wNil)) (wC (.int 3))) wNil)) (wVar 2)))
  (wSeq (wSetF 3 (wBin (dI CPos fun i j => .int (i % j)) (wCB dInt (wCons (wBin (dI CMulX fun i j => .int (i * j)) (wVar 3) (wBin dAdd (wBin (dI CPos fun i j => .int (i % j)) (wCB dInt (wCons (wVar 3) wNil)) (wC (.int 10009))) (wBin (dI CMulX fun i j => .int (i * j)) (wC (.int 89)) (wBin dIx (wVar 0) (wC (.int 2)))))) wNil)) (wC (.int 2305843009213693907))))
  (wRet (wBin (dI CPos fun i j => .int (i % j)) (wCB dInt (wCons (wBin (dI CDivW fun i j => .int (i / j)) (wVar 3) (wC (.int 173))) wNil)) (wVar 1))))))))
def FTake (A B : Int) : Fd := mkF (pin [0, 1]) 5 (fun _ => wTake A B)
/-- the numbers of a pot are small -/
def AB (A B : Int) : Prop := 0 ≤ A ∧ A ≤ 1000000 ∧ 0 ≤ B ∧ B ≤ 1000000
theorem take_ok {A B m n : Int} {s : SD} {Q : Rz → Sl → Prop} {Ξ : Xp} (hAB : AB A B) (hp : Pot m s) (hm : m ≤ 1000000000000) (hn : 0 < n) (hn' : Sm n)
    (h : ∀ d s', 0 ≤ d → d < n → Pot (m + 1) s' → Q (.dat (.int d)) [s', .dat (.int n)]) : FTake A B [s, .dat (.int n)] Q Ξ := by
  obtain ⟨a, b, c, rfl, ha, hb, hb', hc, hc'⟩ := hp
  obtain ⟨hA, hA', hB, hB'⟩ := hAB
  unfold FTake mkF
  refine ⟨pinned2 (fun o z => by cases z), ?_⟩
  simp only [wTake, wSeq, wIfS, wSetF, wSet, wSetIx, wRet, wB, wBin, wUn, wCB, wCons, wNil, wVar, wC, dI, dI0, dIx, dInt, look, looks, ok, Rz.pd, SD.pd, OD.pd, Rz.cold, Rz.cool, warm, pdsOf, frz, frzAll, ownL, List.length_cons, List.length_nil, List.cons_append, List.nil_append, List.replicate, Nat.reduceAdd, Nat.reduceSub, List.getElem?_cons_zero, List.getElem?_cons_succ, Option.bind_some, atI0c, atI1c, atI2c, ix0, ix2, List.set_cons_zero, List.set_cons_succ, true_or, or_true, true_and, wLst, leave, fin, wNext, dAdd]
  have hpos : CPos a n := hn
  have hdiv : CDivW a n := divX hn hn'
  by_cases h0 : 0 < a
  · simp only [decide_eq_true h0]
    refine ⟨hpos, hdiv, ?_⟩
    have := emod_rng (x := a) hn
    exact h (a % n) _ this.1 this.2 ⟨a / n, b, c, rfl, Int.ediv_nonneg ha (by omega), hb, hb', hc, by omega⟩
  · simp only [decide_eq_false h0]
    obtain ⟨p, ep, p0, p1⟩ := primes ((c + 1) % 5) (emod_rng (by decide)).1 (emod_rng (by decide)).2
    rw [ep]
    have hc1 : Sm (c + 1) := sm_big (by omega)
    have hm2 : Sm (A * (c + 1)) := by
      have q1 : A * (c + 1) ≤ 1000000 * 1000000000001 := Int.mul_le_mul hA' (by omega) (by omega) (by decide)
      have q0 : 0 ≤ A * (c + 1) := Int.mul_nonneg hA (by omega)
      exact sm_big (by omega)
    have q1 : A * (c + 1) * (c + 1) ≤ 1000000 * 1000000000001 * 1000000000001 := Int.mul_le_mul (Int.mul_le_mul hA' (by omega) (by omega) (by decide)) (by omega) (by omega) (by decide)
    have q0 : 0 ≤ A * (c + 1) * (c + 1) := Int.mul_nonneg (Int.mul_nonneg hA (by omega)) (by omega)
    refine ⟨by rw [sizeLine_eq]; decide, .inr ⟨_, rfl⟩, by unfold CPos; decide, mulX (sm_big (by omega)) hc1, mulX hm2 hc1, powX (sm_big (by omega)) (by decide) (by decide), ?_⟩
    show CPos _ p ∧ _
    obtain ⟨r0, r1⟩ := emod_rng (x := (b + A * (c + 1) * (c + 1) + B) ^ Int.toNat 3) p0
    generalize (b + A * (c + 1) * (c + 1) + B) ^ Int.toNat 3 % p = u at r0 r1 ⊢
    obtain ⟨v0, v1⟩ := emod_rng (x := u) (n := 10009) (by decide)
    refine ⟨p0, by unfold CPos; decide, mulX (sm_big (by decide)) hc1, mulX (sm_big (by omega)) (sm_big (by omega)), by unfold CPos; decide, divX (by decide) (sm_big (by decide)), hpos, ?_⟩
    have := emod_rng (x := u * (u % 10009 + 89 * (c + 1)) % 2305843009213693907 / 173) hn
    exact h _ _ this.1 this.2 ⟨a, b, c + 1, rfl, ha, hb, hb', by omega, by omega⟩
def wOf (A B : Int) : Ws := (wRet (wBin dIx (wVar 1) (wCall 2 (FTake A B) noX (wCons (wVar 0) (wCons (wCB dLen (wCons (wVar 1) wNil)) wNil)))))
def FOf (A B : Int) : Fd := mkF (pin [0, 1]) 2 (fun _ => wOf A B)
theorem of_ok {A B m : Int} {s : SD} {xs : List PD} {Q : Rz → Sl → Prop} {Ξ : Xp} (hAB : AB A B) (hp : Pot m s) (hm : m ≤ 1000000000000) (h0 : 0 < xs.length) (h1 : xs.length ≤ 100000)
    (h : ∀ x s', x ∈ xs → Pot (m + 1) s' → Q (.dat x) [s', .dat (.lst xs)]) : FOf A B [s, .dat (.lst xs)] Q Ξ := by
  obtain ⟨o, ho⟩ := hp.own
  unfold FOf mkF
  refine ⟨pinned2 (fun o z => by cases z), ?_⟩
  subst ho
  simp only [wOf, wSeq, wNext, wIfS, wSetF, wSet, into, wSetIx, wRet, wRetN, wDrop, wB, wBin, wUn, wCB, wCons, wNil, wVar, wC, wIf, wAnd, wOr, wNot, wAndV, wOrV, wNotV, wTup, wLst, wSl, wNoPart, wPart, wChain, wUnp, wgTup, wgCons, wgNil, wName, wIsi, wListRg, wRg1, wRg2, wTupRg, wPuts, puts, Rz.sd, wConsH, wAppend, wExtend, ownL, dI, dI0, dIx, dInt, dAbs, dLen, dMax2, dMin2, dSum, dAll, dAny, dList, dTuple, dAdd, dNeg, dIsN, dNotN, PD.isN, dSl, look, looks, ok, Rz.pd, SD.pd, OD.pd, Rz.cold, Rz.cool, warm, pdsOf, frz, frzAll, leave, argOf, onceB, newBor, isBor, ty_non, ty_bl, ty_int, ty_str, ty_lst, ty_scr, ty_tup, ty_dct, isa, String.reduceBEq, beq_self_eq_true, Bool.false_and, Bool.and_false, Bool.not_true, Bool.or_self, wYes, wCall, backS_0, backS_1, backS_2, backS_3, backS_4, backS_o0, backS_o1, backS_o2, backS_o3, dEq_int, dEq_str, dNeX_int, dNeX_str, List.length_cons, List.length_nil, List.cons_append, List.nil_append, List.replicate, Nat.reduceAdd, Nat.reduceSub, List.getElem?_cons_zero, List.getElem?_cons_succ, Option.bind_some, List.set_cons_zero, List.set_cons_succ, List.map_cons, List.map_nil, List.any_cons, List.any_nil, List.getD_cons_zero, List.getD_cons_succ, true_or, or_true, true_and, and_true, Bool.and_true, Bool.true_and, Bool.or_false, Bool.false_or, Bool.not_false, Bool.not_true, Bool.or_true, Bool.true_or, decide_true, decide_false, wFor, wRng1, wRng2, wLc, wSeqI, items, wEnumX, wCallO, wNever, noOwn, List.all_cons, List.all_nil, wipeS, Bool.and_self, decide_eq_true_eq, atI0a, atI0b, atI0c, atI1b, atI1c, atI2c]
  refine take_ok hAB hp hm (by omega) (sm_big (by omega)) fun d s' hd hd' hp' => ?_
  obtain ⟨x, hat, hx⟩ := atI_of hd hd'
  obtain ⟨o', ho'⟩ := hp'.own
  subst ho'
  rw [backS_o1 rfl]
  simp only [wSeq, wNext, wIfS, wSetF, wSet, into, wSetIx, wRet, wRetN, wDrop, wB, wBin, wUn, wCB, wCons, wNil, wVar, wC, wIf, wAnd, wOr, wNot, wAndV, wOrV, wNotV, wTup, wLst, wSl, wNoPart, wPart, wChain, wUnp, wgTup, wgCons, wgNil, wName, wIsi, wListRg, wRg1, wRg2, wTupRg, wPuts, puts, Rz.sd, wConsH, wAppend, wExtend, ownL, dI, dI0, dIx, dInt, dAbs, dLen, dMax2, dMin2, dSum, dAll, dAny, dList, dTuple, dAdd, dNeg, dIsN, dNotN, PD.isN, dSl, look, looks, ok, Rz.pd, SD.pd, OD.pd, Rz.cold, Rz.cool, warm, pdsOf, frz, frzAll, leave, argOf, onceB, newBor, isBor, ty_non, ty_bl, ty_int, ty_str, ty_lst, ty_scr, ty_tup, ty_dct, isa, String.reduceBEq, beq_self_eq_true, Bool.false_and, Bool.and_false, Bool.not_true, Bool.or_self, wYes, wCall, backS_0, backS_1, backS_2, backS_3, backS_4, backS_o0, backS_o1, backS_o2, backS_o3, dEq_int, dEq_str, dNeX_int, dNeX_str, List.length_cons, List.length_nil, List.cons_append, List.nil_append, List.replicate, Nat.reduceAdd, Nat.reduceSub, List.getElem?_cons_zero, List.getElem?_cons_succ, Option.bind_some, List.set_cons_zero, List.set_cons_succ, List.map_cons, List.map_nil, List.any_cons, List.any_nil, List.getD_cons_zero, List.getD_cons_succ, true_or, or_true, true_and, and_true, Bool.and_true, Bool.true_and, Bool.or_false, Bool.false_or, Bool.not_false, Bool.not_true, Bool.or_true, Bool.true_or, decide_true, decide_false, wFor, wRng1, wRng2, wLc, wSeqI, items, wEnumX, wCallO, wNever, noOwn, List.all_cons, List.all_nil, wipeS, Bool.and_self, decide_eq_true_eq, atI0a, atI0b, atI0c, atI1b, atI1c, atI2c]
  rw [hat]
  exact h x _ (List.mem_of_getElem? hx) hp'
end DL

set_option Elab.async false
set_option linter.all false
set_option maxRecDepth 100000
set_option maxHeartbeats 4000000
set_option exponentiation.threshold 3000
namespace DL
open PySem L2
def wPot (M1 C1 M2 M3 C2 : Int) : Ws := (wSeq (wSetF 2 (wIf (wB (wBin (dI0 fun i j => .bl (decide (i < j))) (wVar 1) (wCB dLen (wCons (wVar 0) wNil)))) (wBin dIx (wVar 0) (wVar 1)) (wBin dAdd (wBin dAdd (wBin (dI CPos fun i j => .int (i % j)) (wCB dSum (wCons (wSl (wVar 0) wNoPart (wPart (wC (.int 1)))) wNil)) (wC (.int 1000003))) (wBin (dI CMulX fun i j => .int (i * j)) (wC (.int M1)) (wVar 1))) (wC (.int C1)))))
  (wSeq (wSetF 3 (wBin (dI CMulX fun i j => .int (i * j)) (wBin (dI CPos fun i j => .int (i % j)) (wCB dInt (wCons (wCB dAbs (wCons (wVar 2) wNil)) wNil)) (wBin (dI CPowX fun i j => .int (i ^ j.toNat)) (wBin (dI CPowX fun i j => .int (i ^ j.toNat)) (wC (.int 10)) (wC (.int 60))) (wC (.int 5)))) (wCB dInt (wCons (wBin (dI0 fun i j => .bl (decide (j ≤ i))) (wCB dAbs (wCons (wVar 2) wNil)) (wBin (dI CPowX fun i j => .int (i ^ j.toNat)) (wC (.int 10)) (wC (.int 18)))) wNil))))
  (wSeq (wSetF 4 (wBin (dI CPos fun i j => .int (i % j)) (wCB dInt (wCons (wVar 2) wNil)) (wC (.int 2305843009213693951))))
  (wRet (wLst (wCons (wVar 3) (wCons (wBin (dI CPos fun i j => .int (i % j)) (wCB dInt (wCons (wBin dAdd (wBin dAdd (wBin (dI CMulX fun i j => .int (i * j)) (wVar 4) (wC (.int M2))) (wBin (dI CMulX fun i j => .int (i * j)) (wBin (dI CMulX fun i j => .int (i * j)) (wC (.int M3)) (wVar 1)) (wVar 1))) (wC (.int C2))) wNil)) (wC (.int 2305843009213693921))) (wCons (wC (.int 0)) wNil))))))))
def FPot (M1 C1 M2 M3 C2 : Int) : Fd := mkF (pin [0, 1]) 5 (fun _ => wPot M1 C1 M2 M3 C2)
def PC (M1 C1 M2 M3 C2 : Int) : Prop := (0 ≤ M1 ∧ M1 ≤ 1000000) ∧ (0 ≤ C1 ∧ C1 ≤ 1000000) ∧ (0 ≤ M2 ∧ M2 ≤ 1000000) ∧ (0 ≤ M3 ∧ M3 ≤ 1000000) ∧ (0 ≤ C2 ∧ C2 ≤ 1000000)
theorem pot_ok {M1 C1 M2 M3 C2 : Int} {ns : List Int} {p : Int} {Q : Rz → Sl → Prop} {Ξ : Xp} (hP : PC M1 C1 M2 M3 C2) (h0 : 0 ≤ p) (h2 : p ≤ 100)
    (h : ∀ s o as, s = SD.own o → Pot 0 s → Q (.own o) as) : FPot M1 C1 M2 M3 C2 [.dat (.scr ns), .dat (.int p)] Q Ξ := by
  obtain ⟨⟨p1, p2⟩, ⟨c1, c2⟩, ⟨m1, m2⟩, ⟨m3, m4⟩, ⟨e1, e2⟩⟩ := hP
  unfold FPot mkF
  refine ⟨pinned2 (fun o z => by cases z), ?_⟩
  have small : ∀ {x y : Int}, 0 ≤ x → x ≤ 1000000 → 0 ≤ y → y ≤ 1000000 → 0 ≤ x * y ∧ x * y ≤ 1000000000000 := fun {x y} a b c d => ⟨Int.mul_nonneg a c, by
    calc x * y ≤ 1000000 * 1000000 := Int.mul_le_mul b d c (by decide)
      _ = 1000000000000 := by decide⟩
  have tail : ∀ z : Int, (wSeq (wSetF 3 (wBin (dI CMulX fun i j => .int (i * j)) (wBin (dI CPos fun i j => .int (i % j)) (wCB dInt (wCons (wCB dAbs (wCons (wVar 2) wNil)) wNil)) (wBin (dI CPowX fun i j => .int (i ^ j.toNat)) (wBin (dI CPowX fun i j => .int (i ^ j.toNat)) (wC (.int 10)) (wC (.int 60))) (wC (.int 5)))) (wCB dInt (wCons (wBin (dI0 fun i j => .bl (decide (j ≤ i))) (wCB dAbs (wCons (wVar 2) wNil)) (wBin (dI CPowX fun i j => .int (i ^ j.toNat)) (wC (.int 10)) (wC (.int 18)))) wNil))))
  (wSeq (wSetF 4 (wBin (dI CPos fun i j => .int (i % j)) (wCB dInt (wCons (wVar 2) wNil)) (wC (.int 2305843009213693951))))
  (wRet (wLst (wCons (wVar 3) (wCons (wBin (dI CPos fun i j => .int (i % j)) (wCB dInt (wCons (wBin dAdd (wBin dAdd (wBin (dI CMulX fun i j => .int (i * j)) (wVar 4) (wC (.int M2))) (wBin (dI CMulX fun i j => .int (i * j)) (wBin (dI CMulX fun i j => .int (i * j)) (wC (.int M3)) (wVar 1)) (wVar 1))) (wC (.int C2))) wNil)) (wC (.int 2305843009213693921))) (wCons (wC (.int 0)) wNil))))))) { nx := fun ρ => Q (.dat .non) (fin (pin [0, 1]) [.dat (.scr ns), .dat (.int p)] ρ), rt := fun r ρ => leave (pin [0, 1]) 2 r ρ fun r ρ => Q r (fin (pin [0, 1]) [.dat (.scr ns), .dat (.int p)] ρ) } [.dat (.scr ns), .dat (.int p), .dat (.int z), .emp, .emp] := fun z => by
    simp only [wSeq, wSetF, wSet, wRet, wB, wBin, wUn, wCB, wCons, wNil, wVar, wC, dI, dI0, dInt, dAbs, dAdd, look, looks, ok, Rz.pd, SD.pd, OD.pd, Rz.cold, Rz.cool, warm, pdsOf, frz, frzAll, List.length_cons, List.length_nil, Nat.reduceAdd, List.getElem?_cons_zero, List.getElem?_cons_succ, Option.bind_some, List.set_cons_zero, List.set_cons_succ, true_or, or_true, true_and, wLst, leave]
    have e5 : (((10 : Int) ^ Int.toNat 60) ^ Int.toNat 5) < 2 ^ 1000 := by decide +kernel
    have e0 : (0 : Int) < (((10 : Int) ^ Int.toNat 60) ^ Int.toNat 5) := by decide +kernel
    have b10 : Sm ((10 : Int) ^ Int.toNat 60) := by unfold Sm; decide +kernel
    generalize hM : (((10 : Int) ^ Int.toNat 60) ^ Int.toNat 5) = M at e5 e0 ⊢
    generalize (if z < 0 then -z else z) = y
    generalize hg : (if decide ((10 : Int) ^ Int.toNat 18 ≤ y) = true then (1 : Int) else 0) = g
    have hg' : g = 0 ∨ g = 1 := by
      rw [← hg]
      split
      · exact .inr rfl
      · exact .inl rfl
    obtain ⟨u0, u1⟩ := emod_rng (x := y) e0
    have bu : Sm (y % M) := by
      have h1 : y % M < 2 ^ 1000 := Int.lt_trans u1 e5
      have h2 : (2 : Nat) ^ 1000 < 2 ^ 2000 := by decide +kernel
      have h3 : ((y % M).natAbs : Int) = y % M := Int.natAbs_of_nonneg u0
      have h4 : (y % M).natAbs < 2 ^ 1000 := by
        have : ((y % M).natAbs : Int) < ((2 ^ 1000 : Nat) : Int) := by rw [h3]; exact Int.lt_of_lt_of_le h1 (by decide +kernel)
        exact Int.ofNat_lt.mp this
      exact Nat.lt_trans h4 h2
    have bg : Sm g := sm_big (by rcases hg' with e | e <;> (rw [e]; decide))
    obtain ⟨v0, v1⟩ := emod_rng (x := z) (n := 2305843009213693951) (by decide)
    obtain ⟨w0, w1⟩ := emod_rng (x := z % 2305843009213693951 * M2 + M3 * p * p + C2) (n := 2305843009213693921) (by decide)
    obtain ⟨s0, s1⟩ := small m3 m4 h0 (by omega : p ≤ 1000000)
    refine ⟨powX (sm_big (by decide)) (by decide) (by decide), powX b10 (by decide) (by decide), e0, powX (sm_big (by decide)) (by decide) (by decide), mulX bu bg, by unfold CPos; decide, mulX (sm_big (by omega)) (sm_big (by omega)), mulX (sm_big (by omega)) (sm_big (by omega)), mulX (sm_big (by omega)) (sm_big (by omega)), by unfold CPos; decide, by rw [sizeLine_eq]; decide, ?_⟩
    refine h _ _ _ rfl ⟨_, _, _, rfl, ?_, w0, by omega, by decide, by decide⟩
    rcases hg' with e | e <;> rw [e]
    · omega
    · omega
  unfold wPot
  simp only [List.length_cons, List.length_nil, Nat.reduceAdd, Nat.reduceSub, List.replicate, List.cons_append, List.nil_append]
  by_cases hp : p < ns.length
  · obtain ⟨z, hat, hz⟩ := atI_of (xs := ns) h0 hp
    have := tail z
    rw [wSeq, wSetF]
    simp only [wIf, wB, wBin, wCB, wCons, wNil, wVar, wC, dI, dI0, dIx, dLen, look, looks, ok, Rz.pd, SD.pd, OD.pd, Rz.cold, Rz.cool, warm, pdsOf, frz, frzAll, List.getElem?_cons_zero, List.getElem?_cons_succ, Option.bind_some, List.set_cons_zero, List.set_cons_succ, true_or, true_and, decide_eq_true hp, hat]
    exact this
  · have := tail ((cutP ns none (some 1)).sum % 1000003 + M1 * p + C1)
    rw [wSeq, wSetF]
    simp only [wIf, wB, wBin, wCB, wCons, wNil, wVar, wC, wSl, wNoPart, wPart, dSl, dSum, dAdd, dI, dI0, dIx, dLen, look, looks, ok, Rz.pd, SD.pd, OD.pd, Rz.cold, Rz.cool, warm, pdsOf, frz, frzAll, List.getElem?_cons_zero, List.getElem?_cons_succ, Option.bind_some, List.set_cons_zero, List.set_cons_succ, true_or, true_and, decide_eq_false hp, intsOf_map]
    refine ⟨.inr ⟨_, rfl⟩, by unfold CPos; decide, mulX (sm_big (by omega)) (sm_big (by omega)), ?_⟩
    exact this
def wCells : Ws := (wRet (wListRg (wRg1 (wCB dMax2 (wCons (wC (.int 1)) (wCons (wCB dMin2 (wCons (wVar 1) (wCons (wCB dLen (wCons (wVar 0) wNil)) wNil))) wNil))))))
def FCells : Fd := mkF (pin [0, 1]) 2 (fun _ => wCells)
theorem cells_ok {ns : List Int} {m : Int} {Q : Rz → Sl → Prop} {Ξ : Xp} (hm : 1 ≤ m ∧ m ≤ 100) (h : ∀ n : Nat, 1 ≤ n → (n : Int) ≤ m → Q (.own (.lst (rgP 0 n))) [.dat (.scr ns), .dat (.int m)]) : FCells [.dat (.scr ns), .dat (.int m)] Q Ξ := by
  unfold FCells mkF
  refine ⟨pinned2 (fun o z => by cases z), ?_⟩
  simp only [wCells, wRet, wListRg, wRg1, wCB, wCons, wNil, wVar, wC, dMax2, dMin2, dLen, look, looks, ok, Rz.pd, SD.pd, Rz.cold, Rz.cool, warm, pdsOf, List.length_cons, List.length_nil, Nat.reduceAdd, Nat.reduceSub, List.replicate, List.cons_append, List.nil_append, List.getElem?_cons_zero, List.getElem?_cons_succ, Option.bind_some, true_or, true_and, leave]
  generalize hk : (if (if (ns.length : Int) < m then (ns.length : Int) else m) > 1 then if (ns.length : Int) < m then (ns.length : Int) else m else 1) = k
  have h1 : 1 ≤ k ∧ k ≤ m := by
    rw [← hk]
    split <;> split <;> omega
  refine ⟨RgOk.of_le (by decide) (by omega) (by decide) (by omega), ?_⟩
  have := h (k - 0).toNat (by omega) (by omega)
  exact this
/-- a right made of each cell's pot -/
def RightOk (F : Fd) : Prop := ∀ (s : SD) (Q : Rz → Sl → Prop), Pot 0 s → (∀ as, Q (.dat (.bl true)) as) → F [s] Q noX
def wLawA (n : Int) (Fp Fr : Fd) : Ws := (wRet (wCB dAll (wCons (wLc [1] (wSeqI (wCall 2 FCells noX (wCons (wVar 0) (wCons (wC (.int n)) wNil)))) (wName 1) wYes (wCallO Fr noX (wCall 2 Fp noX (wCons (wVar 0) (wCons (wVar 1) wNil))))) wNil)))
theorem bools_rep : ∀ n : Nat, bools (List.replicate n (.bl true)) = some (List.replicate n true)
  | 0 => rfl
  | n + 1 => by
    show (match bools (List.replicate n (.bl true)) with | some ns => some (true :: ns) | none => none) = _
    rw [bools_rep n]; rfl
theorem all_rep (n : Nat) : (List.replicate n true).all id = true := by simp [List.all_replicate]
theorem lawA_ok {M1 C1 M2 M3 C2 n : Int} {Fr : Fd} {ns : List Int} (hP : PC M1 C1 M2 M3 C2) (hn : 1 ≤ n ∧ n ≤ 100) (hR : RightOk Fr) : mkF (pin [0]) 2 (fun _ => wLawA n (FPot M1 C1 M2 M3 C2) Fr) [.dat (.scr ns)] (fun r _ => r = .dat (.bl true)) noX := by
  unfold mkF
  refine ⟨pinned1, ?_⟩
  have loop : ∀ (m k : Nat) (s : SD) (Q : List PD → Sl → Prop), ((k + m : Nat) : Int) ≤ 100 → Q (List.replicate (k + m) (.bl true)) [.dat (.scr ns), .emp] →
      compL [1] (wName 1) wYes (wCallO Fr noX (wCall 2 (FPot M1 C1 M2 M3 C2) noX (wCons (wVar 0) (wCons (wVar 1) wNil)))) ((List.range' k m).map fun i => PD.int (0 + (i : Nat))) (List.replicate k (.bl true)) Q [.dat (.scr ns), .emp] := by
    intro m
    induction m with
    | zero => intro k s Q hk h; exact h
    | succ m ih =>
      intro k s Q hk h
      rw [List.range'_succ, List.map_cons]
      simp only [compL, wName, wYes, wCallO, wCall, wCons, wNil, wVar, Rz.cold, Rz.cool, warm, true_or, true_and, List.set_cons_zero, List.set_cons_succ, List.getElem?_cons_zero, List.getElem?_cons_succ, List.length_cons, List.length_nil, Nat.reduceAdd, onceB, newBor, Bool.and_self, List.map_cons, List.map_nil, argOf]
      refine pot_ok hP (by omega) (by omega) fun sp o as eo hp => ?_
      subst eo
      refine hR _ _ hp fun as' => ?_
      simp only [frz, frzAll, ok]
      refine ⟨.inl trivial, by rw [List.length_replicate]; exact sz' (by omega), ?_⟩
      have e : List.replicate k (PD.bl true) ++ [.bl true] = List.replicate (k + 1) (.bl true) := by rw [List.replicate_succ']
      rw [e]
      have : k + (m + 1) = (k + 1) + m := by omega
      rw [this] at h hk
      exact ih (k + 1) .emp Q hk h
  unfold wLawA
  simp only [wRet, wCB, wCons, wNil, wVar, wC, wLc, wSeqI, wCall, Rz.cold, Rz.cool, warm, true_or, true_and, List.length_cons, List.length_nil, Nat.reduceAdd, Nat.reduceSub, List.replicate, List.cons_append, List.nil_append, List.getElem?_cons_zero, List.getElem?_cons_succ, onceB, newBor, Bool.and_self, List.map_cons, List.map_nil, argOf]
  refine cells_ok hn fun j h1 h3 => ?_
  refine And.intro (Or.inr ⟨_, rfl⟩) ?_
  have e : rgP 0 j = (List.range' 0 j).map fun i => PD.int (0 + (i : Nat)) := by unfold rgP; rw [List.range_eq_range']
  show noOwn [.dat (.scr ns), .emp] [1] = true ∧ compL [1] (wName 1) wYes _ (rgP 0 j) [] _ [.dat (.scr ns), .emp]
  rw [e]
  refine ⟨rfl, loop j 0 .emp _ (by omega) ?_⟩
  rw [Nat.zero_add]
  refine And.intro (Or.inr ⟨_, rfl⟩) ?_
  show ok ((bools (List.replicate j (.bl true)))) _
  rw [bools_rep]
  simp only [ok, leave, all_rep]
end DL

set_option Elab.async false
set_option linter.all false
set_option maxRecDepth 100000
set_option maxHeartbeats 4000000
set_option exponentiation.threshold 3000
namespace DL
open PySem L2
/-! ### defs of the program that many laws reach -/
/-- a kind that isinstance knows -/
def Kd (d : PD) : Prop := ∃ t, d.ty = some t
def isNum : PD → Bool
  | .int _ => true
  | _ => false
def within (d : PD) (lo hi : Int) : Bool := match d with
  | .int i => decide (lo ≤ i) && decide (i ≤ hi)
  | _ => false
def wIsNumber : Ws := (wRet (wAndV (wIsi "int" (wVar 0)) (wNotV (wIsi "bool" (wVar 0)))))
def FIsNumber : Fd := mkF (pin [0]) 1 (fun _ => wIsNumber)
theorem isNumber_ok {d : PD} {Q : Rz → Sl → Prop} {Ξ : Xp} (hd : Kd d) (h : Q (.dat (.bl (isNum d))) [.dat d]) : FIsNumber [.dat d] Q Ξ := by
  unfold FIsNumber mkF
  refine ⟨pinned1, ?_⟩
  obtain ⟨t, ht⟩ := hd
  cases d <;> first
    | (cases ht; done)
    | (simp only [wIsNumber, wSeq, wNext, wIfS, wSetF, wSet, into, wSetIx, wRet, wRetN, wDrop, wB, wBin, wUn, wCB, wCons, wNil, wVar, wC, wIf, wAnd, wOr, wNot, wAndV, wOrV, wNotV, wTup, wLst, wSl, wNoPart, wPart, wChain, wUnp, wgTup, wgCons, wgNil, wName, wIsi, wListRg, wRg1, wRg2, wTupRg, wPuts, puts, Rz.sd, wConsH, wAppend, wExtend, ownL, dI, dI0, dIx, dInt, dAbs, dLen, dMax2, dMin2, dSum, dAll, dAny, dList, dTuple, dAdd, dNeg, dIsN, dNotN, PD.isN, dSl, look, looks, ok, Rz.pd, SD.pd, OD.pd, Rz.cold, Rz.cool, warm, pdsOf, frz, frzAll, leave, argOf, onceB, newBor, isBor, ty_non, ty_bl, ty_int, ty_str, ty_lst, ty_scr, ty_tup, ty_dct, isa, String.reduceBEq, beq_self_eq_true, Bool.false_and, Bool.and_false, Bool.not_true, Bool.or_self, wYes, wCall, backS_0, backS_1, backS_2, backS_3, backS_4, backS_o0, backS_o1, backS_o2, backS_o3, dEq_int, dEq_str, dNeX_int, dNeX_str, List.length_cons, List.length_nil, List.cons_append, List.nil_append, List.replicate, Nat.reduceAdd, Nat.reduceSub, List.getElem?_cons_zero, List.getElem?_cons_succ, Option.bind_some, List.set_cons_zero, List.set_cons_succ, List.map_cons, List.map_nil, List.any_cons, List.any_nil, List.getD_cons_zero, List.getD_cons_succ, true_or, or_true, true_and, and_true, Bool.and_true, Bool.true_and, Bool.or_false, Bool.false_or, Bool.not_false, Bool.not_true, Bool.or_true, Bool.true_or, decide_true, decide_false, wFor, wRng1, wRng2, wLc, wSeqI, items, wEnumX, wCallO, wNever, noOwn, List.all_cons, List.all_nil, wipeS, Bool.and_self, decide_eq_true_eq, atI0a, atI0b, atI0c, atI1b, atI1c, atI2c]; exact h)
def wIsWithin : Ws := (wRet (wAndV (wCall 1 FIsNumber noX (wCons (wVar 0) wNil)) (wChain (dI0 fun i j => .bl (decide (i ≤ j))) (dI0 fun i j => .bl (decide (i ≤ j))) (wVar 1) (wVar 0) (wVar 2))))
def FIsWithin : Fd := mkF (pin [0, 1, 2]) 3 (fun _ => wIsWithin)
theorem pinnedD {xs : List PD} {T : Nat → Bool} : pinned T (xs.map SD.dat) := fun i o e => by
  rw [List.getElem?_map] at e
  cases h : xs[i]? with
  | none => rw [h] at e; cases e
  | some x => rw [h] at e; cases e
theorem isWithin_ok {d : PD} {lo hi : Int} {Q : Rz → Sl → Prop} {Ξ : Xp} (hd : Kd d) (h : Q (.dat (.bl (within d lo hi))) [.dat d, .dat (.int lo), .dat (.int hi)]) : FIsWithin [.dat d, .dat (.int lo), .dat (.int hi)] Q Ξ := by
  unfold FIsWithin mkF
  refine ⟨pinnedD (xs := [d, .int lo, .int hi]), ?_⟩
  simp only [wIsWithin, wSeq, wNext, wIfS, wSetF, wSet, into, wSetIx, wRet, wRetN, wDrop, wB, wBin, wUn, wCB, wCons, wNil, wVar, wC, wIf, wAnd, wOr, wNot, wAndV, wOrV, wNotV, wTup, wLst, wSl, wNoPart, wPart, wChain, wUnp, wgTup, wgCons, wgNil, wName, wIsi, wListRg, wRg1, wRg2, wTupRg, wPuts, puts, Rz.sd, wConsH, wAppend, wExtend, ownL, dI, dI0, dIx, dInt, dAbs, dLen, dMax2, dMin2, dSum, dAll, dAny, dList, dTuple, dAdd, dNeg, dIsN, dNotN, PD.isN, dSl, look, looks, ok, Rz.pd, SD.pd, OD.pd, Rz.cold, Rz.cool, warm, pdsOf, frz, frzAll, leave, argOf, onceB, newBor, isBor, ty_non, ty_bl, ty_int, ty_str, ty_lst, ty_scr, ty_tup, ty_dct, isa, String.reduceBEq, beq_self_eq_true, Bool.false_and, Bool.and_false, Bool.not_true, Bool.or_self, wYes, wCall, backS_0, backS_1, backS_2, backS_3, backS_4, backS_o0, backS_o1, backS_o2, backS_o3, dEq_int, dEq_str, dNeX_int, dNeX_str, List.length_cons, List.length_nil, List.cons_append, List.nil_append, List.replicate, Nat.reduceAdd, Nat.reduceSub, List.getElem?_cons_zero, List.getElem?_cons_succ, Option.bind_some, List.set_cons_zero, List.set_cons_succ, List.map_cons, List.map_nil, List.any_cons, List.any_nil, List.getD_cons_zero, List.getD_cons_succ, true_or, or_true, true_and, and_true, Bool.and_true, Bool.true_and, Bool.or_false, Bool.false_or, Bool.not_false, Bool.not_true, Bool.or_true, Bool.true_or, decide_true, decide_false, wFor, wRng1, wRng2, wLc, wSeqI, items, wEnumX, wCallO, wNever, noOwn, List.all_cons, List.all_nil, wipeS, Bool.and_self, decide_eq_true_eq, atI0a, atI0b, atI0c, atI1b, atI1c, atI2c]
  refine isNumber_ok hd ?_
  cases d with
  | int i =>
    simp only [isNum, wSeq, wNext, wIfS, wSetF, wSet, into, wSetIx, wRet, wRetN, wDrop, wB, wBin, wUn, wCB, wCons, wNil, wVar, wC, wIf, wAnd, wOr, wNot, wAndV, wOrV, wNotV, wTup, wLst, wSl, wNoPart, wPart, wChain, wUnp, wgTup, wgCons, wgNil, wName, wIsi, wListRg, wRg1, wRg2, wTupRg, wPuts, puts, Rz.sd, wConsH, wAppend, wExtend, ownL, dI, dI0, dIx, dInt, dAbs, dLen, dMax2, dMin2, dSum, dAll, dAny, dList, dTuple, dAdd, dNeg, dIsN, dNotN, PD.isN, dSl, look, looks, ok, Rz.pd, SD.pd, OD.pd, Rz.cold, Rz.cool, warm, pdsOf, frz, frzAll, leave, argOf, onceB, newBor, isBor, ty_non, ty_bl, ty_int, ty_str, ty_lst, ty_scr, ty_tup, ty_dct, isa, String.reduceBEq, beq_self_eq_true, Bool.false_and, Bool.and_false, Bool.not_true, Bool.or_self, wYes, wCall, backS_0, backS_1, backS_2, backS_3, backS_4, backS_o0, backS_o1, backS_o2, backS_o3, dEq_int, dEq_str, dNeX_int, dNeX_str, List.length_cons, List.length_nil, List.cons_append, List.nil_append, List.replicate, Nat.reduceAdd, Nat.reduceSub, List.getElem?_cons_zero, List.getElem?_cons_succ, Option.bind_some, List.set_cons_zero, List.set_cons_succ, List.map_cons, List.map_nil, List.any_cons, List.any_nil, List.getD_cons_zero, List.getD_cons_succ, true_or, or_true, true_and, and_true, Bool.and_true, Bool.true_and, Bool.or_false, Bool.false_or, Bool.not_false, Bool.not_true, Bool.or_true, Bool.true_or, decide_true, decide_false, wFor, wRng1, wRng2, wLc, wSeqI, items, wEnumX, wCallO, wNever, noOwn, List.all_cons, List.all_nil, wipeS, Bool.and_self, decide_eq_true_eq, atI0a, atI0b, atI0c, atI1b, atI1c, atI2c]
    by_cases h1 : lo ≤ i
    · simp only [decide_eq_true h1, wSeq, wNext, wIfS, wSetF, wSet, into, wSetIx, wRet, wRetN, wDrop, wB, wBin, wUn, wCB, wCons, wNil, wVar, wC, wIf, wAnd, wOr, wNot, wAndV, wOrV, wNotV, wTup, wLst, wSl, wNoPart, wPart, wChain, wUnp, wgTup, wgCons, wgNil, wName, wIsi, wListRg, wRg1, wRg2, wTupRg, wPuts, puts, Rz.sd, wConsH, wAppend, wExtend, ownL, dI, dI0, dIx, dInt, dAbs, dLen, dMax2, dMin2, dSum, dAll, dAny, dList, dTuple, dAdd, dNeg, dIsN, dNotN, PD.isN, dSl, look, looks, ok, Rz.pd, SD.pd, OD.pd, Rz.cold, Rz.cool, warm, pdsOf, frz, frzAll, leave, argOf, onceB, newBor, isBor, ty_non, ty_bl, ty_int, ty_str, ty_lst, ty_scr, ty_tup, ty_dct, isa, String.reduceBEq, beq_self_eq_true, Bool.false_and, Bool.and_false, Bool.not_true, Bool.or_self, wYes, wCall, backS_0, backS_1, backS_2, backS_3, backS_4, backS_o0, backS_o1, backS_o2, backS_o3, dEq_int, dEq_str, dNeX_int, dNeX_str, List.length_cons, List.length_nil, List.cons_append, List.nil_append, List.replicate, Nat.reduceAdd, Nat.reduceSub, List.getElem?_cons_zero, List.getElem?_cons_succ, Option.bind_some, List.set_cons_zero, List.set_cons_succ, List.map_cons, List.map_nil, List.any_cons, List.any_nil, List.getD_cons_zero, List.getD_cons_succ, true_or, or_true, true_and, and_true, Bool.and_true, Bool.true_and, Bool.or_false, Bool.false_or, Bool.not_false, Bool.not_true, Bool.or_true, Bool.true_or, decide_true, decide_false, wFor, wRng1, wRng2, wLc, wSeqI, items, wEnumX, wCallO, wNever, noOwn, List.all_cons, List.all_nil, wipeS, Bool.and_self, decide_eq_true_eq, atI0a, atI0b, atI0c, atI1b, atI1c, atI2c]
      have e : within (.int i) lo hi = decide (i ≤ hi) := by simp only [within, decide_eq_true h1, Bool.true_and]
      rw [e] at h; exact h
    · simp only [decide_eq_false h1, wSeq, wNext, wIfS, wSetF, wSet, into, wSetIx, wRet, wRetN, wDrop, wB, wBin, wUn, wCB, wCons, wNil, wVar, wC, wIf, wAnd, wOr, wNot, wAndV, wOrV, wNotV, wTup, wLst, wSl, wNoPart, wPart, wChain, wUnp, wgTup, wgCons, wgNil, wName, wIsi, wListRg, wRg1, wRg2, wTupRg, wPuts, puts, Rz.sd, wConsH, wAppend, wExtend, ownL, dI, dI0, dIx, dInt, dAbs, dLen, dMax2, dMin2, dSum, dAll, dAny, dList, dTuple, dAdd, dNeg, dIsN, dNotN, PD.isN, dSl, look, looks, ok, Rz.pd, SD.pd, OD.pd, Rz.cold, Rz.cool, warm, pdsOf, frz, frzAll, leave, argOf, onceB, newBor, isBor, ty_non, ty_bl, ty_int, ty_str, ty_lst, ty_scr, ty_tup, ty_dct, isa, String.reduceBEq, beq_self_eq_true, Bool.false_and, Bool.and_false, Bool.not_true, Bool.or_self, wYes, wCall, backS_0, backS_1, backS_2, backS_3, backS_4, backS_o0, backS_o1, backS_o2, backS_o3, dEq_int, dEq_str, dNeX_int, dNeX_str, List.length_cons, List.length_nil, List.cons_append, List.nil_append, List.replicate, Nat.reduceAdd, Nat.reduceSub, List.getElem?_cons_zero, List.getElem?_cons_succ, Option.bind_some, List.set_cons_zero, List.set_cons_succ, List.map_cons, List.map_nil, List.any_cons, List.any_nil, List.getD_cons_zero, List.getD_cons_succ, true_or, or_true, true_and, and_true, Bool.and_true, Bool.true_and, Bool.or_false, Bool.false_or, Bool.not_false, Bool.not_true, Bool.or_true, Bool.true_or, decide_true, decide_false, wFor, wRng1, wRng2, wLc, wSeqI, items, wEnumX, wCallO, wNever, noOwn, List.all_cons, List.all_nil, wipeS, Bool.and_self, decide_eq_true_eq, atI0a, atI0b, atI0c, atI1b, atI1c, atI2c]
      have e : within (.int i) lo hi = false := by simp only [within, decide_eq_false h1, Bool.false_and]
      rw [e] at h; exact h
  | _ => simp only [isNum, wSeq, wNext, wIfS, wSetF, wSet, into, wSetIx, wRet, wRetN, wDrop, wB, wBin, wUn, wCB, wCons, wNil, wVar, wC, wIf, wAnd, wOr, wNot, wAndV, wOrV, wNotV, wTup, wLst, wSl, wNoPart, wPart, wChain, wUnp, wgTup, wgCons, wgNil, wName, wIsi, wListRg, wRg1, wRg2, wTupRg, wPuts, puts, Rz.sd, wConsH, wAppend, wExtend, ownL, dI, dI0, dIx, dInt, dAbs, dLen, dMax2, dMin2, dSum, dAll, dAny, dList, dTuple, dAdd, dNeg, dIsN, dNotN, PD.isN, dSl, look, looks, ok, Rz.pd, SD.pd, OD.pd, Rz.cold, Rz.cool, warm, pdsOf, frz, frzAll, leave, argOf, onceB, newBor, isBor, ty_non, ty_bl, ty_int, ty_str, ty_lst, ty_scr, ty_tup, ty_dct, isa, String.reduceBEq, beq_self_eq_true, Bool.false_and, Bool.and_false, Bool.not_true, Bool.or_self, wYes, wCall, backS_0, backS_1, backS_2, backS_3, backS_4, backS_o0, backS_o1, backS_o2, backS_o3, dEq_int, dEq_str, dNeX_int, dNeX_str, List.length_cons, List.length_nil, List.cons_append, List.nil_append, List.replicate, Nat.reduceAdd, Nat.reduceSub, List.getElem?_cons_zero, List.getElem?_cons_succ, Option.bind_some, List.set_cons_zero, List.set_cons_succ, List.map_cons, List.map_nil, List.any_cons, List.any_nil, List.getD_cons_zero, List.getD_cons_succ, true_or, or_true, true_and, and_true, Bool.and_true, Bool.true_and, Bool.or_false, Bool.false_or, Bool.not_false, Bool.not_true, Bool.or_true, Bool.true_or, decide_true, decide_false, wFor, wRng1, wRng2, wLc, wSeqI, items, wEnumX, wCallO, wNever, noOwn, List.all_cons, List.all_nil, wipeS, Bool.and_self, decide_eq_true_eq, atI0a, atI0b, atI0c, atI1b, atI1c, atI2c]; exact h
/-- a service -/
def isWord (w : Str) : Prop := w = "queue" ∨ w = "order" ∨ w = "any"
theorem sok_queue : PyData.strOk ("queue" : Str) = true := by decide +kernel
theorem sok_order : PyData.strOk ("order" : Str) = true := by decide +kernel
theorem sok_any : PyData.strOk ("any" : Str) = true := by decide +kernel
theorem qq : decide (("queue" : Str) = "queue") = true := by decide +kernel
theorem oo : decide (("order" : Str) = "order") = true := by decide +kernel
theorem aa : decide (("any" : Str) = "any") = true := by decide +kernel
theorem qo : decide (("queue" : Str) = "order") = false := by decide +kernel
theorem qa : decide (("queue" : Str) = "any") = false := by decide +kernel
theorem oq : decide (("order" : Str) = "queue") = false := by decide +kernel
theorem oa : decide (("order" : Str) = "any") = false := by decide +kernel
theorem aq : decide (("any" : Str) = "queue") = false := by decide +kernel
theorem ao : decide (("any" : Str) = "order") = false := by decide +kernel
abbrev cWORDS : PD := .tup [.str "queue", .str "order", .str "any"]
def sv (w : Str) (n : Int) : PD := .tup [.str w, .int n]
def Sv (w : Str) (n : Int) : Prop := isWord w ∧ 1 ≤ n ∧ n ≤ 4
def wIsService : Ws := (wSeq (wIfS (wOr (wNot (wB (wIsi "tuple" (wVar 0)))) (wB (wBin dNeX (wCB dLen (wCons (wVar 0) wNil)) (wC (.int 2))))) (wRet (wC (.bl false))) wNext)
  (wSeq (wUnp (wVar 0) (wgTup 2 (wgCons (wName 1) (wgCons (wName 2) wgNil))))
  (wRet (wAndV (wIsi "str" (wVar 1)) (wAndV (wBin (dIn false) (wVar 1) (wC cWORDS)) (wCall 3 FIsWithin noX (wCons (wVar 2) (wCons (wC (.int 1)) (wCons (wC (.int 4)) wNil)))))))))
def FIsService : Fd := mkF (pin [0]) 3 (fun _ => wIsService)
theorem inWords {w : Str} (h : isWord w) : ∀ k : Rz → Prop, dIn false (.str w) cWORDS k = k (.dat (.bl true)) := fun k => by
  have e : ([PD.str "queue", .str "order", .str "any"].any fun y => PyData.eqv y.py (PD.str w).py) = true := by
    rcases h with rfl | rfl | rfl <;> decide +kernel
  show (PD.flat (.str w) = true ∧ _ ∧ k (.dat (.bl (if false = true then _ else _)))) = _
  rw [if_neg Bool.false_ne_true, e]
  simp [PD.flat]
theorem isService_ok {w : Str} {n : Int} {Q : Rz → Sl → Prop} {Ξ : Xp} (hs : Sv w n) (h : Q (.dat (.bl true)) [.dat (sv w n)]) : FIsService [.dat (sv w n)] Q Ξ := by
  obtain ⟨hw, h1, h2⟩ := hs
  unfold FIsService mkF
  refine ⟨pinned1, ?_⟩
  simp only [wIsService, sv, wSeq, wNext, wIfS, wSetF, wSet, into, wSetIx, wRet, wRetN, wDrop, wB, wBin, wUn, wCB, wCons, wNil, wVar, wC, wIf, wAnd, wOr, wNot, wAndV, wOrV, wNotV, wTup, wLst, wSl, wNoPart, wPart, wChain, wUnp, wgTup, wgCons, wgNil, wName, wIsi, wListRg, wRg1, wRg2, wTupRg, wPuts, puts, Rz.sd, wConsH, wAppend, wExtend, ownL, dI, dI0, dIx, dInt, dAbs, dLen, dMax2, dMin2, dSum, dAll, dAny, dList, dTuple, dAdd, dNeg, dIsN, dNotN, PD.isN, dSl, look, looks, ok, Rz.pd, SD.pd, OD.pd, Rz.cold, Rz.cool, warm, pdsOf, frz, frzAll, leave, argOf, onceB, newBor, isBor, ty_non, ty_bl, ty_int, ty_str, ty_lst, ty_scr, ty_tup, ty_dct, isa, String.reduceBEq, beq_self_eq_true, Bool.false_and, Bool.and_false, Bool.not_true, Bool.or_self, wYes, wCall, backS_0, backS_1, backS_2, backS_3, backS_4, backS_o0, backS_o1, backS_o2, backS_o3, dEq_int, dEq_str, dNeX_int, dNeX_str, List.length_cons, List.length_nil, List.cons_append, List.nil_append, List.replicate, Nat.reduceAdd, Nat.reduceSub, List.getElem?_cons_zero, List.getElem?_cons_succ, Option.bind_some, List.set_cons_zero, List.set_cons_succ, List.map_cons, List.map_nil, List.any_cons, List.any_nil, List.getD_cons_zero, List.getD_cons_succ, true_or, or_true, true_and, and_true, Bool.and_true, Bool.true_and, Bool.or_false, Bool.false_or, Bool.not_false, Bool.not_true, Bool.or_true, Bool.true_or, decide_true, decide_false, wFor, wRng1, wRng2, wLc, wSeqI, items, wEnumX, wCallO, wNever, noOwn, List.all_cons, List.all_nil, wipeS, Bool.and_self, decide_eq_true_eq, atI0a, atI0b, atI0c, atI1b, atI1c, atI2c]
  have e2 : ((2 : Nat) : Int) = 2 := rfl
  simp only [e2, ne_eq, not_true, wSeq, wNext, wIfS, wSetF, wSet, into, wSetIx, wRet, wRetN, wDrop, wB, wBin, wUn, wCB, wCons, wNil, wVar, wC, wIf, wAnd, wOr, wNot, wAndV, wOrV, wNotV, wTup, wLst, wSl, wNoPart, wPart, wChain, wUnp, wgTup, wgCons, wgNil, wName, wIsi, wListRg, wRg1, wRg2, wTupRg, wPuts, puts, Rz.sd, wConsH, wAppend, wExtend, ownL, dI, dI0, dIx, dInt, dAbs, dLen, dMax2, dMin2, dSum, dAll, dAny, dList, dTuple, dAdd, dNeg, dIsN, dNotN, PD.isN, dSl, look, looks, ok, Rz.pd, SD.pd, OD.pd, Rz.cold, Rz.cool, warm, pdsOf, frz, frzAll, leave, argOf, onceB, newBor, isBor, ty_non, ty_bl, ty_int, ty_str, ty_lst, ty_scr, ty_tup, ty_dct, isa, String.reduceBEq, beq_self_eq_true, Bool.false_and, Bool.and_false, Bool.not_true, Bool.or_self, wYes, wCall, backS_0, backS_1, backS_2, backS_3, backS_4, backS_o0, backS_o1, backS_o2, backS_o3, dEq_int, dEq_str, dNeX_int, dNeX_str, List.length_cons, List.length_nil, List.cons_append, List.nil_append, List.replicate, Nat.reduceAdd, Nat.reduceSub, List.getElem?_cons_zero, List.getElem?_cons_succ, Option.bind_some, List.set_cons_zero, List.set_cons_succ, List.map_cons, List.map_nil, List.any_cons, List.any_nil, List.getD_cons_zero, List.getD_cons_succ, true_or, or_true, true_and, and_true, Bool.and_true, Bool.true_and, Bool.or_false, Bool.false_or, Bool.not_false, Bool.not_true, Bool.or_true, Bool.true_or, decide_true, decide_false, wFor, wRng1, wRng2, wLc, wSeqI, items, wEnumX, wCallO, wNever, noOwn, List.all_cons, List.all_nil, wipeS, Bool.and_self, decide_eq_true_eq, atI0a, atI0b, atI0c, atI1b, atI1c, atI2c]
  simp only [inWords hw, wSeq, wNext, wIfS, wSetF, wSet, into, wSetIx, wRet, wRetN, wDrop, wB, wBin, wUn, wCB, wCons, wNil, wVar, wC, wIf, wAnd, wOr, wNot, wAndV, wOrV, wNotV, wTup, wLst, wSl, wNoPart, wPart, wChain, wUnp, wgTup, wgCons, wgNil, wName, wIsi, wListRg, wRg1, wRg2, wTupRg, wPuts, puts, Rz.sd, wConsH, wAppend, wExtend, ownL, dI, dI0, dIx, dInt, dAbs, dLen, dMax2, dMin2, dSum, dAll, dAny, dList, dTuple, dAdd, dNeg, dIsN, dNotN, PD.isN, dSl, look, looks, ok, Rz.pd, SD.pd, OD.pd, Rz.cold, Rz.cool, warm, pdsOf, frz, frzAll, leave, argOf, onceB, newBor, isBor, ty_non, ty_bl, ty_int, ty_str, ty_lst, ty_scr, ty_tup, ty_dct, isa, String.reduceBEq, beq_self_eq_true, Bool.false_and, Bool.and_false, Bool.not_true, Bool.or_self, wYes, wCall, backS_0, backS_1, backS_2, backS_3, backS_4, backS_o0, backS_o1, backS_o2, backS_o3, dEq_int, dEq_str, dNeX_int, dNeX_str, List.length_cons, List.length_nil, List.cons_append, List.nil_append, List.replicate, Nat.reduceAdd, Nat.reduceSub, List.getElem?_cons_zero, List.getElem?_cons_succ, Option.bind_some, List.set_cons_zero, List.set_cons_succ, List.map_cons, List.map_nil, List.any_cons, List.any_nil, List.getD_cons_zero, List.getD_cons_succ, true_or, or_true, true_and, and_true, Bool.and_true, Bool.true_and, Bool.or_false, Bool.false_or, Bool.not_false, Bool.not_true, Bool.or_true, Bool.true_or, decide_true, decide_false, wFor, wRng1, wRng2, wLc, wSeqI, items, wEnumX, wCallO, wNever, noOwn, List.all_cons, List.all_nil, wipeS, Bool.and_self, decide_eq_true_eq, atI0a, atI0b, atI0c, atI1b, atI1c, atI2c]
  refine isWithin_ok ⟨_, rfl⟩ ?_
  have e3 : within (.int n) 1 4 = true := by simp only [within, decide_eq_true h1, decide_eq_true h2, Bool.and_self]
  rw [e3]
  exact h
def wCheckService (F : Fd) (R : Ws) : Ws := (wIfS (wNot (wB (wCall 1 F noX (wCons (wVar 0) wNil)))) R wNext)
def FCheckService (R : Xp → Ws) : Fd := mkF (pin [0]) 1 (fun Ξ => wCheckService FIsService (R Ξ))
theorem checkService_ok {w : Str} {n : Int} {R : Xp → Ws} {Q : Rz → Sl → Prop} {Ξ : Xp} (hs : Sv w n) (h : Q (.dat .non) [.dat (sv w n)]) : FCheckService R [.dat (sv w n)] Q Ξ := by
  unfold FCheckService mkF
  refine ⟨pinned1, ?_⟩
  simp only [wCheckService, wSeq, wNext, wIfS, wSetF, wSet, into, wSetIx, wRet, wRetN, wDrop, wB, wBin, wUn, wCB, wCons, wNil, wVar, wC, wIf, wAnd, wOr, wNot, wAndV, wOrV, wNotV, wTup, wLst, wSl, wNoPart, wPart, wChain, wUnp, wgTup, wgCons, wgNil, wName, wIsi, wListRg, wRg1, wRg2, wTupRg, wPuts, puts, Rz.sd, wConsH, wAppend, wExtend, ownL, dI, dI0, dIx, dInt, dAbs, dLen, dMax2, dMin2, dSum, dAll, dAny, dList, dTuple, dAdd, dNeg, dIsN, dNotN, PD.isN, dSl, look, looks, ok, Rz.pd, SD.pd, OD.pd, Rz.cold, Rz.cool, warm, pdsOf, frz, frzAll, leave, argOf, onceB, newBor, isBor, ty_non, ty_bl, ty_int, ty_str, ty_lst, ty_scr, ty_tup, ty_dct, isa, String.reduceBEq, beq_self_eq_true, Bool.false_and, Bool.and_false, Bool.not_true, Bool.or_self, wYes, wCall, backS_0, backS_1, backS_2, backS_3, backS_4, backS_o0, backS_o1, backS_o2, backS_o3, dEq_int, dEq_str, dNeX_int, dNeX_str, List.length_cons, List.length_nil, List.cons_append, List.nil_append, List.replicate, Nat.reduceAdd, Nat.reduceSub, List.getElem?_cons_zero, List.getElem?_cons_succ, Option.bind_some, List.set_cons_zero, List.set_cons_succ, List.map_cons, List.map_nil, List.any_cons, List.any_nil, List.getD_cons_zero, List.getD_cons_succ, true_or, or_true, true_and, and_true, Bool.and_true, Bool.true_and, Bool.or_false, Bool.false_or, Bool.not_false, Bool.not_true, Bool.or_true, Bool.true_or, decide_true, decide_false, wFor, wRng1, wRng2, wLc, wSeqI, items, wEnumX, wCallO, wNever, noOwn, List.all_cons, List.all_nil, wipeS, Bool.and_self, decide_eq_true_eq, atI0a, atI0b, atI0c, atI1b, atI1c, atI2c]
  refine isService_ok hs ?_
  simp only [wSeq, wNext, wIfS, wSetF, wSet, into, wSetIx, wRet, wRetN, wDrop, wB, wBin, wUn, wCB, wCons, wNil, wVar, wC, wIf, wAnd, wOr, wNot, wAndV, wOrV, wNotV, wTup, wLst, wSl, wNoPart, wPart, wChain, wUnp, wgTup, wgCons, wgNil, wName, wIsi, wListRg, wRg1, wRg2, wTupRg, wPuts, puts, Rz.sd, wConsH, wAppend, wExtend, ownL, dI, dI0, dIx, dInt, dAbs, dLen, dMax2, dMin2, dSum, dAll, dAny, dList, dTuple, dAdd, dNeg, dIsN, dNotN, PD.isN, dSl, look, looks, ok, Rz.pd, SD.pd, OD.pd, Rz.cold, Rz.cool, warm, pdsOf, frz, frzAll, leave, argOf, onceB, newBor, isBor, ty_non, ty_bl, ty_int, ty_str, ty_lst, ty_scr, ty_tup, ty_dct, isa, String.reduceBEq, beq_self_eq_true, Bool.false_and, Bool.and_false, Bool.not_true, Bool.or_self, wYes, wCall, backS_0, backS_1, backS_2, backS_3, backS_4, backS_o0, backS_o1, backS_o2, backS_o3, dEq_int, dEq_str, dNeX_int, dNeX_str, List.length_cons, List.length_nil, List.cons_append, List.nil_append, List.replicate, Nat.reduceAdd, Nat.reduceSub, List.getElem?_cons_zero, List.getElem?_cons_succ, Option.bind_some, List.set_cons_zero, List.set_cons_succ, List.map_cons, List.map_nil, List.any_cons, List.any_nil, List.getD_cons_zero, List.getD_cons_succ, true_or, or_true, true_and, and_true, Bool.and_true, Bool.true_and, Bool.or_false, Bool.false_or, Bool.not_false, Bool.not_true, Bool.or_true, Bool.true_or, decide_true, decide_false, wFor, wRng1, wRng2, wLc, wSeqI, items, wEnumX, wCallO, wNever, noOwn, List.all_cons, List.all_nil, wipeS, Bool.and_self, decide_eq_true_eq, atI0a, atI0b, atI0c, atI1b, atI1c, atI2c]
  exact h
end DL

set_option Elab.async false
set_option linter.all false
set_option maxRecDepth 100000
set_option maxHeartbeats 4000000
set_option exponentiation.threshold 3000
namespace DL
open PySem L2
theorem atI_last {α : Type} {xs : List α} {x : α} : atI (xs ++ [x]) (-1) = some x := by
  have e : ixN (xs ++ [x]).length (-1) = some xs.length := by
    unfold ixN
    rw [if_neg (by decide), List.length_append, List.length_cons, List.length_nil, if_pos (by omega)]
    congr 1
    omega
  unfold atI
  rw [e]
  show (xs ++ [x])[xs.length]? = some x
  simp
/-! ### weights -/
def wts : List Int → Int → List Int
  | [], p => [p]
  | b :: bs, p => p :: wts bs (p * b)
def wWeights : Ws := (wSeq (wSet 1 (wLst (wCons (wC (.int 1)) wNil)))
  (wSeq (wFor (wSeqI (wVar 0)) (wName 2) (wDrop (wAppend 1 (wCons (wBin (dI CMulX fun i j => .int (i * j)) (wBin dIx (wVar 1) (wUn dNeg (wC (.int 1)))) (wVar 2)) wNil))))
  (wRet (wVar 1))))
def FWeights : Fd := mkF (pin [0]) 3 (fun _ => wWeights)
def Bases (ns : List Int) : Prop := ∀ b ∈ ns, 2 ≤ b ∧ b ≤ 4
theorem wts_len : ∀ (ns : List Int) (p : Int), (wts ns p).length = ns.length + 1
  | [], _ => rfl
  | _ :: ns, p => by rw [wts, List.length_cons, wts_len ns, List.length_cons]
theorem pow4_le {a b : Nat} (h : a ≤ b) : (4 : Int) ^ a ≤ 4 ^ b := by
  induction h with
  | refl => exact Int.le_refl _
  | step _ ih =>
    rename_i m _
    rw [Int.pow_succ]
    have : (0 : Int) < 4 ^ m := Int.pow_pos (by decide)
    omega
theorem pow4 : (4 : Int) ^ 60 < 2 ^ 127 := by decide +kernel
theorem weights_loop {ns : List Int} : ∀ {acc : List Int} {p : Int} {B : PD} {s2 : SD} {O : On}, Bases ns → 0 < p → p * 4 ^ ns.length ≤ 4 ^ 60 → acc.length + ns.length ≤ 1000 →
    (∀ s, O.nx [.dat B, .own (.lst ((acc ++ wts ns p).map .int)), s]) →
    forL (wName 2) (wDrop (wAppend 1 (wCons (wBin (dI CMulX fun i j => .int (i * j)) (wBin dIx (wVar 1) (wUn dNeg (wC (.int 1)))) (wVar 2)) wNil))) (ns.map .int) O [.dat B, .own (.lst ((acc ++ [p]).map .int)), s2] := by
  induction ns with
  | nil => intro acc p B s2 O _ _ _ _ h; exact h s2
  | cons b bs ih =>
    intro acc p B s2 O hb hp hP hl h
    obtain ⟨b1, b2⟩ := hb b List.mem_cons_self
    rw [List.length_cons] at hP hl
    have q : (4 : Int) ^ (bs.length + 1) = 4 * 4 ^ bs.length := by rw [Int.pow_succ, Int.mul_comm]
    have pos : (0 : Int) < 4 ^ bs.length := Int.pow_pos (by decide)
    have hpb : p * b * 4 ^ bs.length ≤ 4 ^ 60 := by
      refine Int.le_trans ?_ hP
      rw [q, Int.mul_assoc]
      exact Int.mul_le_mul_of_nonneg_left (Int.mul_le_mul_of_nonneg_right b2 (by omega)) (by omega)
    have hps : p < 2 ^ 127 := by
      have : p ≤ p * 4 ^ (bs.length + 1) := by
        have : 1 ≤ (4 : Int) ^ (bs.length + 1) := Int.pow_pos (by decide)
        calc p = p * 1 := by omega
          _ ≤ p * 4 ^ (bs.length + 1) := Int.mul_le_mul_of_nonneg_left this (by omega)
      exact Int.lt_of_le_of_lt (Int.le_trans this hP) pow4
    show wName 2 (.int b) _ _
    have el : (List.map PD.int (acc ++ [p])) = acc.map PD.int ++ [.int p] := by rw [List.map_append]; rfl
    simp only [el, wSeq, wNext, wIfS, wSetF, wSet, into, wSetIx, wRet, wRetN, wDrop, wB, wBin, wUn, wCB, wCons, wNil, wVar, wC, wIf, wAnd, wOr, wNot, wAndV, wOrV, wNotV, wTup, wLst, wSl, wNoPart, wPart, wChain, wUnp, wgTup, wgCons, wgNil, wName, wIsi, wListRg, wRg1, wRg2, wTupRg, wPuts, puts, Rz.sd, wConsH, wAppend, wExtend, ownL, dI, dI0, dIx, dInt, dAbs, dLen, dMax2, dMin2, dSum, dAll, dAny, dList, dTuple, dAdd, dNeg, dIsN, dNotN, PD.isN, dSl, look, looks, ok, Rz.pd, SD.pd, OD.pd, Rz.cold, Rz.cool, warm, pdsOf, frz, frzAll, leave, argOf, onceB, newBor, isBor, ty_non, ty_bl, ty_int, ty_str, ty_lst, ty_scr, ty_tup, ty_dct, isa, String.reduceBEq, beq_self_eq_true, Bool.false_and, Bool.and_false, Bool.not_true, Bool.or_self, wYes, wCall, backS_0, backS_1, backS_2, backS_3, backS_4, backS_o0, backS_o1, backS_o2, backS_o3, dEq_int, dEq_str, dNeX_int, dNeX_str, List.length_cons, List.length_nil, List.cons_append, List.nil_append, List.replicate, Nat.reduceAdd, Nat.reduceSub, List.getElem?_cons_zero, List.getElem?_cons_succ, Option.bind_some, List.set_cons_zero, List.set_cons_succ, List.map_cons, List.map_nil, List.any_cons, List.any_nil, List.getD_cons_zero, List.getD_cons_succ, true_or, or_true, true_and, and_true, Bool.and_true, Bool.true_and, Bool.or_false, Bool.false_or, Bool.not_false, Bool.not_true, Bool.or_true, Bool.true_or, decide_true, decide_false, wFor, wRng1, wRng2, wLc, wSeqI, items, wEnumX, wCallO, wNever, noOwn, List.all_cons, List.all_nil, wipeS, Bool.and_self, decide_eq_true_eq, atI0a, atI0b, atI0c, atI1b, atI1c, atI2c]
    rw [atI_last]
    simp only [wSeq, wNext, wIfS, wSetF, wSet, into, wSetIx, wRet, wRetN, wDrop, wB, wBin, wUn, wCB, wCons, wNil, wVar, wC, wIf, wAnd, wOr, wNot, wAndV, wOrV, wNotV, wTup, wLst, wSl, wNoPart, wPart, wChain, wUnp, wgTup, wgCons, wgNil, wName, wIsi, wListRg, wRg1, wRg2, wTupRg, wPuts, puts, Rz.sd, wConsH, wAppend, wExtend, ownL, dI, dI0, dIx, dInt, dAbs, dLen, dMax2, dMin2, dSum, dAll, dAny, dList, dTuple, dAdd, dNeg, dIsN, dNotN, PD.isN, dSl, look, looks, ok, Rz.pd, SD.pd, OD.pd, Rz.cold, Rz.cool, warm, pdsOf, frz, frzAll, leave, argOf, onceB, newBor, isBor, ty_non, ty_bl, ty_int, ty_str, ty_lst, ty_scr, ty_tup, ty_dct, isa, String.reduceBEq, beq_self_eq_true, Bool.false_and, Bool.and_false, Bool.not_true, Bool.or_self, wYes, wCall, backS_0, backS_1, backS_2, backS_3, backS_4, backS_o0, backS_o1, backS_o2, backS_o3, dEq_int, dEq_str, dNeX_int, dNeX_str, List.length_cons, List.length_nil, List.cons_append, List.nil_append, List.replicate, Nat.reduceAdd, Nat.reduceSub, List.getElem?_cons_zero, List.getElem?_cons_succ, Option.bind_some, List.set_cons_zero, List.set_cons_succ, List.map_cons, List.map_nil, List.any_cons, List.any_nil, List.getD_cons_zero, List.getD_cons_succ, true_or, or_true, true_and, and_true, Bool.and_true, Bool.true_and, Bool.or_false, Bool.false_or, Bool.not_false, Bool.not_true, Bool.or_true, Bool.true_or, decide_true, decide_false, wFor, wRng1, wRng2, wLc, wSeqI, items, wEnumX, wCallO, wNever, noOwn, List.all_cons, List.all_nil, wipeS, Bool.and_self, decide_eq_true_eq, atI0a, atI0b, atI0c, atI1b, atI1c, atI2c]
    refine ⟨mulX (sm_big (by omega)) (sm_big (by omega)), by rw [List.length_append, List.length_map, List.length_cons, List.length_nil]; exact sz' (by omega), ?_⟩
    have e2 : acc.map PD.int ++ [.int p] ++ [.int (p * b)] = ((acc ++ [p]) ++ [p * b]).map PD.int := by simp
    rw [e2]
    refine ih (fun x hx => hb x (List.mem_cons_of_mem _ hx)) (Int.mul_pos hp (by omega)) hpb (by rw [List.length_append, List.length_cons, List.length_nil]; omega) fun s => ?_
    have := h s
    rw [wts] at this
    rw [List.append_assoc]
    exact this
theorem weights_ok {ns : List Int} {Q : Rz → Sl → Prop} {Ξ : Xp} (hb : Bases ns) (hl : ns.length ≤ 60) (h : Q (.own (.lst ((wts ns 1).map .int))) [.dat (.tup (ns.map .int))]) : FWeights [.dat (.tup (ns.map .int))] Q Ξ := by
  unfold FWeights mkF
  refine ⟨pinned1, ?_⟩
  simp only [wWeights, wSeq, wNext, wIfS, wSetF, wSet, into, wSetIx, wRet, wRetN, wDrop, wB, wBin, wUn, wCB, wCons, wNil, wVar, wC, wIf, wAnd, wOr, wNot, wAndV, wOrV, wNotV, wTup, wLst, wSl, wNoPart, wPart, wChain, wUnp, wgTup, wgCons, wgNil, wName, wIsi, wListRg, wRg1, wRg2, wTupRg, wPuts, puts, Rz.sd, wConsH, wAppend, wExtend, ownL, dI, dI0, dIx, dInt, dAbs, dLen, dMax2, dMin2, dSum, dAll, dAny, dList, dTuple, dAdd, dNeg, dIsN, dNotN, PD.isN, dSl, look, looks, ok, Rz.pd, SD.pd, OD.pd, Rz.cold, Rz.cool, warm, pdsOf, frz, frzAll, leave, argOf, onceB, newBor, isBor, ty_non, ty_bl, ty_int, ty_str, ty_lst, ty_scr, ty_tup, ty_dct, isa, String.reduceBEq, beq_self_eq_true, Bool.false_and, Bool.and_false, Bool.not_true, Bool.or_self, wYes, wCall, backS_0, backS_1, backS_2, backS_3, backS_4, backS_o0, backS_o1, backS_o2, backS_o3, dEq_int, dEq_str, dNeX_int, dNeX_str, List.length_cons, List.length_nil, List.cons_append, List.nil_append, List.replicate, Nat.reduceAdd, Nat.reduceSub, List.getElem?_cons_zero, List.getElem?_cons_succ, Option.bind_some, List.set_cons_zero, List.set_cons_succ, List.map_cons, List.map_nil, List.any_cons, List.any_nil, List.getD_cons_zero, List.getD_cons_succ, true_or, or_true, true_and, and_true, Bool.and_true, Bool.true_and, Bool.or_false, Bool.false_or, Bool.not_false, Bool.not_true, Bool.or_true, Bool.true_or, decide_true, decide_false, wFor, wRng1, wRng2, wLc, wSeqI, items, wEnumX, wCallO, wNever, noOwn, List.all_cons, List.all_nil, wipeS, Bool.and_self, decide_eq_true_eq, atI0a, atI0b, atI0c, atI1b, atI1c, atI2c]
  refine ⟨sz (by decide), ?_⟩
  refine weights_loop (acc := []) (p := 1) hb (by decide) ?_ (by rw [List.length_nil]; omega) fun s => ?_
  · rw [Int.one_mul]; exact pow4_le hl
  · simp only [List.nil_append, wSeq, wNext, wIfS, wSetF, wSet, into, wSetIx, wRet, wRetN, wDrop, wB, wBin, wUn, wCB, wCons, wNil, wVar, wC, wIf, wAnd, wOr, wNot, wAndV, wOrV, wNotV, wTup, wLst, wSl, wNoPart, wPart, wChain, wUnp, wgTup, wgCons, wgNil, wName, wIsi, wListRg, wRg1, wRg2, wTupRg, wPuts, puts, Rz.sd, wConsH, wAppend, wExtend, ownL, dI, dI0, dIx, dInt, dAbs, dLen, dMax2, dMin2, dSum, dAll, dAny, dList, dTuple, dAdd, dNeg, dIsN, dNotN, PD.isN, dSl, look, looks, ok, Rz.pd, SD.pd, OD.pd, Rz.cold, Rz.cool, warm, pdsOf, frz, frzAll, leave, argOf, onceB, newBor, isBor, ty_non, ty_bl, ty_int, ty_str, ty_lst, ty_scr, ty_tup, ty_dct, isa, String.reduceBEq, beq_self_eq_true, Bool.false_and, Bool.and_false, Bool.not_true, Bool.or_self, wYes, wCall, backS_0, backS_1, backS_2, backS_3, backS_4, backS_o0, backS_o1, backS_o2, backS_o3, dEq_int, dEq_str, dNeX_int, dNeX_str, List.length_cons, List.length_nil, List.cons_append, List.nil_append, List.replicate, Nat.reduceAdd, Nat.reduceSub, List.getElem?_cons_zero, List.getElem?_cons_succ, Option.bind_some, List.set_cons_zero, List.set_cons_succ, List.map_cons, List.map_nil, List.any_cons, List.any_nil, List.getD_cons_zero, List.getD_cons_succ, true_or, or_true, true_and, and_true, Bool.and_true, Bool.true_and, Bool.or_false, Bool.false_or, Bool.not_false, Bool.not_true, Bool.or_true, Bool.true_or, decide_true, decide_false, wFor, wRng1, wRng2, wLc, wSeqI, items, wEnumX, wCallO, wNever, noOwn, List.all_cons, List.all_nil, wipeS, Bool.and_self, decide_eq_true_eq, atI0a, atI0b, atI0c, atI1b, atI1c, atI2c]
    exact ⟨fun _ => rfl, h⟩
/-! ### which pairs can be -/
/-- the pair (x, y, d) in a service -/
def Poss (w : Str) (n x y d : Int) : Bool :=
  if w = "any" then decide (x ≠ d + y) && (decide (0 < d) || decide (1 < n))
  else if d + y ≤ x then false
  else if w = "order" then decide (0 < d) || decide (1 < n)
  else decide (y - x ≤ (d + 1) * (n - 1)) && (decide (1 < n) || decide (x = 0))
def wIsPossible : Ws := (wSeq (wUnp (wVar 0) (wgTup 2 (wgCons (wName 2) (wgCons (wName 3) wgNil))))
  (wSeq (wUnp (wVar 1) (wgTup 3 (wgCons (wName 4) (wgCons (wName 5) (wgCons (wName 6) wgNil)))))
  (wSeq (wIfS (wB (wBin dEq (wVar 2) (wC (.str "any")))) (wRet (wAndV (wBin dNeX (wVar 4) (wBin dAdd (wVar 6) (wVar 5))) (wOrV (wBin (dI0 fun i j => .bl (decide (j < i))) (wVar 6) (wC (.int 0))) (wBin (dI0 fun i j => .bl (decide (j < i))) (wVar 3) (wC (.int 1)))))) wNext)
  (wSeq (wIfS (wB (wBin (dI0 fun i j => .bl (decide (j ≤ i))) (wVar 4) (wBin dAdd (wVar 6) (wVar 5)))) (wRet (wC (.bl false))) wNext)
  (wSeq (wIfS (wB (wBin dEq (wVar 2) (wC (.str "order")))) (wRet (wOrV (wBin (dI0 fun i j => .bl (decide (j < i))) (wVar 6) (wC (.int 0))) (wBin (dI0 fun i j => .bl (decide (j < i))) (wVar 3) (wC (.int 1))))) wNext)
  (wRet (wAndV (wBin (dI0 fun i j => .bl (decide (i ≤ j))) (wBin (dI0 fun i j => .int (i - j)) (wVar 5) (wVar 4)) (wBin (dI CMulX fun i j => .int (i * j)) (wBin dAdd (wVar 6) (wC (.int 1))) (wBin (dI0 fun i j => .int (i - j)) (wVar 3) (wC (.int 1))))) (wOrV (wBin (dI0 fun i j => .bl (decide (j < i))) (wVar 3) (wC (.int 1))) (wBin dEq (wVar 4) (wC (.int 0)))))))))))
def FIsPossible : Fd := mkF (pin [0, 1]) 7 (fun _ => wIsPossible)
theorem isPossible_ok {w : Str} {n x y d : Int} {Q : Rz → Sl → Prop} {Ξ : Xp} (hs : Sv w n) (hd : Sm (d + 1)) (h : Q (.dat (.bl (Poss w n x y d))) [.dat (sv w n), .dat (.tup [.int x, .int y, .int d])]) : FIsPossible [.dat (sv w n), .dat (.tup [.int x, .int y, .int d])] Q Ξ := by
  obtain ⟨hw, h1, h2⟩ := hs
  unfold FIsPossible mkF
  refine ⟨pinnedD (xs := [sv w n, .tup [.int x, .int y, .int d]]), ?_⟩
  simp only [wIsPossible, sv, wSeq, wNext, wIfS, wSetF, wSet, into, wSetIx, wRet, wRetN, wDrop, wB, wBin, wUn, wCB, wCons, wNil, wVar, wC, wIf, wAnd, wOr, wNot, wAndV, wOrV, wNotV, wTup, wLst, wSl, wNoPart, wPart, wChain, wUnp, wgTup, wgCons, wgNil, wName, wIsi, wListRg, wRg1, wRg2, wTupRg, wPuts, puts, Rz.sd, wConsH, wAppend, wExtend, ownL, dI, dI0, dIx, dInt, dAbs, dLen, dMax2, dMin2, dSum, dAll, dAny, dList, dTuple, dAdd, dNeg, dIsN, dNotN, PD.isN, dSl, look, looks, ok, Rz.pd, SD.pd, OD.pd, Rz.cold, Rz.cool, warm, pdsOf, frz, frzAll, leave, argOf, onceB, newBor, isBor, ty_non, ty_bl, ty_int, ty_str, ty_lst, ty_scr, ty_tup, ty_dct, isa, String.reduceBEq, beq_self_eq_true, Bool.false_and, Bool.and_false, Bool.not_true, Bool.or_self, wYes, wCall, backS_0, backS_1, backS_2, backS_3, backS_4, backS_o0, backS_o1, backS_o2, backS_o3, dEq_int, dEq_str, dNeX_int, dNeX_str, List.length_cons, List.length_nil, List.cons_append, List.nil_append, List.replicate, Nat.reduceAdd, Nat.reduceSub, List.getElem?_cons_zero, List.getElem?_cons_succ, Option.bind_some, List.set_cons_zero, List.set_cons_succ, List.map_cons, List.map_nil, List.any_cons, List.any_nil, List.getD_cons_zero, List.getD_cons_succ, true_or, or_true, true_and, and_true, Bool.and_true, Bool.true_and, Bool.or_false, Bool.false_or, Bool.not_false, Bool.not_true, Bool.or_true, Bool.true_or, decide_true, decide_false, wFor, wRng1, wRng2, wLc, wSeqI, items, wEnumX, wCallO, wNever, noOwn, List.all_cons, List.all_nil, wipeS, Bool.and_self, decide_eq_true_eq, atI0a, atI0b, atI0c, atI1b, atI1c, atI2c]
  have z2 : (2 : Nat) ≤ sizeLine := sz (by decide)
  have z3 : (3 : Nat) ≤ sizeLine := sz (by decide)
  have e : Poss w n x y d = Poss w n x y d := rfl
  rcases hw with rfl | rfl | rfl
  · have ne1 : ("queue" : Str) ≠ "any" := by decide +kernel
    have ne2 : ("queue" : Str) ≠ "order" := by decide +kernel
    unfold Poss at h
    rw [if_neg ne1, if_neg ne2] at h
    simp only [dEq_str sok_queue sok_any, dEq_str sok_queue sok_order, qa, qo, z2, z3, wSeq, wNext, wIfS, wSetF, wSet, into, wSetIx, wRet, wRetN, wDrop, wB, wBin, wUn, wCB, wCons, wNil, wVar, wC, wIf, wAnd, wOr, wNot, wAndV, wOrV, wNotV, wTup, wLst, wSl, wNoPart, wPart, wChain, wUnp, wgTup, wgCons, wgNil, wName, wIsi, wListRg, wRg1, wRg2, wTupRg, wPuts, puts, Rz.sd, wConsH, wAppend, wExtend, ownL, dI, dI0, dIx, dInt, dAbs, dLen, dMax2, dMin2, dSum, dAll, dAny, dList, dTuple, dAdd, dNeg, dIsN, dNotN, PD.isN, dSl, look, looks, ok, Rz.pd, SD.pd, OD.pd, Rz.cold, Rz.cool, warm, pdsOf, frz, frzAll, leave, argOf, onceB, newBor, isBor, ty_non, ty_bl, ty_int, ty_str, ty_lst, ty_scr, ty_tup, ty_dct, isa, String.reduceBEq, beq_self_eq_true, Bool.false_and, Bool.and_false, Bool.not_true, Bool.or_self, wYes, wCall, backS_0, backS_1, backS_2, backS_3, backS_4, backS_o0, backS_o1, backS_o2, backS_o3, dEq_int, dEq_str, dNeX_int, dNeX_str, List.length_cons, List.length_nil, List.cons_append, List.nil_append, List.replicate, Nat.reduceAdd, Nat.reduceSub, List.getElem?_cons_zero, List.getElem?_cons_succ, Option.bind_some, List.set_cons_zero, List.set_cons_succ, List.map_cons, List.map_nil, List.any_cons, List.any_nil, List.getD_cons_zero, List.getD_cons_succ, true_or, or_true, true_and, and_true, Bool.and_true, Bool.true_and, Bool.or_false, Bool.false_or, Bool.not_false, Bool.not_true, Bool.or_true, Bool.true_or, decide_true, decide_false, wFor, wRng1, wRng2, wLc, wSeqI, items, wEnumX, wCallO, wNever, noOwn, List.all_cons, List.all_nil, wipeS, Bool.and_self, decide_eq_true_eq, atI0a, atI0b, atI0c, atI1b, atI1c, atI2c]
    by_cases c1 : d + y ≤ x
    · rw [if_pos c1] at h
      simp only [decide_eq_true c1, wSeq, wNext, wIfS, wSetF, wSet, into, wSetIx, wRet, wRetN, wDrop, wB, wBin, wUn, wCB, wCons, wNil, wVar, wC, wIf, wAnd, wOr, wNot, wAndV, wOrV, wNotV, wTup, wLst, wSl, wNoPart, wPart, wChain, wUnp, wgTup, wgCons, wgNil, wName, wIsi, wListRg, wRg1, wRg2, wTupRg, wPuts, puts, Rz.sd, wConsH, wAppend, wExtend, ownL, dI, dI0, dIx, dInt, dAbs, dLen, dMax2, dMin2, dSum, dAll, dAny, dList, dTuple, dAdd, dNeg, dIsN, dNotN, PD.isN, dSl, look, looks, ok, Rz.pd, SD.pd, OD.pd, Rz.cold, Rz.cool, warm, pdsOf, frz, frzAll, leave, argOf, onceB, newBor, isBor, ty_non, ty_bl, ty_int, ty_str, ty_lst, ty_scr, ty_tup, ty_dct, isa, String.reduceBEq, beq_self_eq_true, Bool.false_and, Bool.and_false, Bool.not_true, Bool.or_self, wYes, wCall, backS_0, backS_1, backS_2, backS_3, backS_4, backS_o0, backS_o1, backS_o2, backS_o3, dEq_int, dEq_str, dNeX_int, dNeX_str, List.length_cons, List.length_nil, List.cons_append, List.nil_append, List.replicate, Nat.reduceAdd, Nat.reduceSub, List.getElem?_cons_zero, List.getElem?_cons_succ, Option.bind_some, List.set_cons_zero, List.set_cons_succ, List.map_cons, List.map_nil, List.any_cons, List.any_nil, List.getD_cons_zero, List.getD_cons_succ, true_or, or_true, true_and, and_true, Bool.and_true, Bool.true_and, Bool.or_false, Bool.false_or, Bool.not_false, Bool.not_true, Bool.or_true, Bool.true_or, decide_true, decide_false, wFor, wRng1, wRng2, wLc, wSeqI, items, wEnumX, wCallO, wNever, noOwn, List.all_cons, List.all_nil, wipeS, Bool.and_self, decide_eq_true_eq, atI0a, atI0b, atI0c, atI1b, atI1c, atI2c]
      exact h
    · rw [if_neg c1] at h
      simp only [decide_eq_false c1, wSeq, wNext, wIfS, wSetF, wSet, into, wSetIx, wRet, wRetN, wDrop, wB, wBin, wUn, wCB, wCons, wNil, wVar, wC, wIf, wAnd, wOr, wNot, wAndV, wOrV, wNotV, wTup, wLst, wSl, wNoPart, wPart, wChain, wUnp, wgTup, wgCons, wgNil, wName, wIsi, wListRg, wRg1, wRg2, wTupRg, wPuts, puts, Rz.sd, wConsH, wAppend, wExtend, ownL, dI, dI0, dIx, dInt, dAbs, dLen, dMax2, dMin2, dSum, dAll, dAny, dList, dTuple, dAdd, dNeg, dIsN, dNotN, PD.isN, dSl, look, looks, ok, Rz.pd, SD.pd, OD.pd, Rz.cold, Rz.cool, warm, pdsOf, frz, frzAll, leave, argOf, onceB, newBor, isBor, ty_non, ty_bl, ty_int, ty_str, ty_lst, ty_scr, ty_tup, ty_dct, isa, String.reduceBEq, beq_self_eq_true, Bool.false_and, Bool.and_false, Bool.not_true, Bool.or_self, wYes, wCall, backS_0, backS_1, backS_2, backS_3, backS_4, backS_o0, backS_o1, backS_o2, backS_o3, dEq_int, dEq_str, dNeX_int, dNeX_str, List.length_cons, List.length_nil, List.cons_append, List.nil_append, List.replicate, Nat.reduceAdd, Nat.reduceSub, List.getElem?_cons_zero, List.getElem?_cons_succ, Option.bind_some, List.set_cons_zero, List.set_cons_succ, List.map_cons, List.map_nil, List.any_cons, List.any_nil, List.getD_cons_zero, List.getD_cons_succ, true_or, or_true, true_and, and_true, Bool.and_true, Bool.true_and, Bool.or_false, Bool.false_or, Bool.not_false, Bool.not_true, Bool.or_true, Bool.true_or, decide_true, decide_false, wFor, wRng1, wRng2, wLc, wSeqI, items, wEnumX, wCallO, wNever, noOwn, List.all_cons, List.all_nil, wipeS, Bool.and_self, decide_eq_true_eq, atI0a, atI0b, atI0c, atI1b, atI1c, atI2c]
      refine ⟨mulX hd (sm_big (by omega)), ?_⟩
      by_cases c2 : y - x ≤ (d + 1) * (n - 1)
      · rw [decide_eq_true c2, Bool.true_and] at h
        simp only [decide_eq_true c2, wSeq, wNext, wIfS, wSetF, wSet, into, wSetIx, wRet, wRetN, wDrop, wB, wBin, wUn, wCB, wCons, wNil, wVar, wC, wIf, wAnd, wOr, wNot, wAndV, wOrV, wNotV, wTup, wLst, wSl, wNoPart, wPart, wChain, wUnp, wgTup, wgCons, wgNil, wName, wIsi, wListRg, wRg1, wRg2, wTupRg, wPuts, puts, Rz.sd, wConsH, wAppend, wExtend, ownL, dI, dI0, dIx, dInt, dAbs, dLen, dMax2, dMin2, dSum, dAll, dAny, dList, dTuple, dAdd, dNeg, dIsN, dNotN, PD.isN, dSl, look, looks, ok, Rz.pd, SD.pd, OD.pd, Rz.cold, Rz.cool, warm, pdsOf, frz, frzAll, leave, argOf, onceB, newBor, isBor, ty_non, ty_bl, ty_int, ty_str, ty_lst, ty_scr, ty_tup, ty_dct, isa, String.reduceBEq, beq_self_eq_true, Bool.false_and, Bool.and_false, Bool.not_true, Bool.or_self, wYes, wCall, backS_0, backS_1, backS_2, backS_3, backS_4, backS_o0, backS_o1, backS_o2, backS_o3, dEq_int, dEq_str, dNeX_int, dNeX_str, List.length_cons, List.length_nil, List.cons_append, List.nil_append, List.replicate, Nat.reduceAdd, Nat.reduceSub, List.getElem?_cons_zero, List.getElem?_cons_succ, Option.bind_some, List.set_cons_zero, List.set_cons_succ, List.map_cons, List.map_nil, List.any_cons, List.any_nil, List.getD_cons_zero, List.getD_cons_succ, true_or, or_true, true_and, and_true, Bool.and_true, Bool.true_and, Bool.or_false, Bool.false_or, Bool.not_false, Bool.not_true, Bool.or_true, Bool.true_or, decide_true, decide_false, wFor, wRng1, wRng2, wLc, wSeqI, items, wEnumX, wCallO, wNever, noOwn, List.all_cons, List.all_nil, wipeS, Bool.and_self, decide_eq_true_eq, atI0a, atI0b, atI0c, atI1b, atI1c, atI2c]
        by_cases c3 : 1 < n
        · rw [decide_eq_true c3, Bool.true_or] at h
          simp only [decide_eq_true c3, wSeq, wNext, wIfS, wSetF, wSet, into, wSetIx, wRet, wRetN, wDrop, wB, wBin, wUn, wCB, wCons, wNil, wVar, wC, wIf, wAnd, wOr, wNot, wAndV, wOrV, wNotV, wTup, wLst, wSl, wNoPart, wPart, wChain, wUnp, wgTup, wgCons, wgNil, wName, wIsi, wListRg, wRg1, wRg2, wTupRg, wPuts, puts, Rz.sd, wConsH, wAppend, wExtend, ownL, dI, dI0, dIx, dInt, dAbs, dLen, dMax2, dMin2, dSum, dAll, dAny, dList, dTuple, dAdd, dNeg, dIsN, dNotN, PD.isN, dSl, look, looks, ok, Rz.pd, SD.pd, OD.pd, Rz.cold, Rz.cool, warm, pdsOf, frz, frzAll, leave, argOf, onceB, newBor, isBor, ty_non, ty_bl, ty_int, ty_str, ty_lst, ty_scr, ty_tup, ty_dct, isa, String.reduceBEq, beq_self_eq_true, Bool.false_and, Bool.and_false, Bool.not_true, Bool.or_self, wYes, wCall, backS_0, backS_1, backS_2, backS_3, backS_4, backS_o0, backS_o1, backS_o2, backS_o3, dEq_int, dEq_str, dNeX_int, dNeX_str, List.length_cons, List.length_nil, List.cons_append, List.nil_append, List.replicate, Nat.reduceAdd, Nat.reduceSub, List.getElem?_cons_zero, List.getElem?_cons_succ, Option.bind_some, List.set_cons_zero, List.set_cons_succ, List.map_cons, List.map_nil, List.any_cons, List.any_nil, List.getD_cons_zero, List.getD_cons_succ, true_or, or_true, true_and, and_true, Bool.and_true, Bool.true_and, Bool.or_false, Bool.false_or, Bool.not_false, Bool.not_true, Bool.or_true, Bool.true_or, decide_true, decide_false, wFor, wRng1, wRng2, wLc, wSeqI, items, wEnumX, wCallO, wNever, noOwn, List.all_cons, List.all_nil, wipeS, Bool.and_self, decide_eq_true_eq, atI0a, atI0b, atI0c, atI1b, atI1c, atI2c]; exact h
        · rw [decide_eq_false c3, Bool.false_or] at h
          simp only [decide_eq_false c3, wSeq, wNext, wIfS, wSetF, wSet, into, wSetIx, wRet, wRetN, wDrop, wB, wBin, wUn, wCB, wCons, wNil, wVar, wC, wIf, wAnd, wOr, wNot, wAndV, wOrV, wNotV, wTup, wLst, wSl, wNoPart, wPart, wChain, wUnp, wgTup, wgCons, wgNil, wName, wIsi, wListRg, wRg1, wRg2, wTupRg, wPuts, puts, Rz.sd, wConsH, wAppend, wExtend, ownL, dI, dI0, dIx, dInt, dAbs, dLen, dMax2, dMin2, dSum, dAll, dAny, dList, dTuple, dAdd, dNeg, dIsN, dNotN, PD.isN, dSl, look, looks, ok, Rz.pd, SD.pd, OD.pd, Rz.cold, Rz.cool, warm, pdsOf, frz, frzAll, leave, argOf, onceB, newBor, isBor, ty_non, ty_bl, ty_int, ty_str, ty_lst, ty_scr, ty_tup, ty_dct, isa, String.reduceBEq, beq_self_eq_true, Bool.false_and, Bool.and_false, Bool.not_true, Bool.or_self, wYes, wCall, backS_0, backS_1, backS_2, backS_3, backS_4, backS_o0, backS_o1, backS_o2, backS_o3, dEq_int, dEq_str, dNeX_int, dNeX_str, List.length_cons, List.length_nil, List.cons_append, List.nil_append, List.replicate, Nat.reduceAdd, Nat.reduceSub, List.getElem?_cons_zero, List.getElem?_cons_succ, Option.bind_some, List.set_cons_zero, List.set_cons_succ, List.map_cons, List.map_nil, List.any_cons, List.any_nil, List.getD_cons_zero, List.getD_cons_succ, true_or, or_true, true_and, and_true, Bool.and_true, Bool.true_and, Bool.or_false, Bool.false_or, Bool.not_false, Bool.not_true, Bool.or_true, Bool.true_or, decide_true, decide_false, wFor, wRng1, wRng2, wLc, wSeqI, items, wEnumX, wCallO, wNever, noOwn, List.all_cons, List.all_nil, wipeS, Bool.and_self, decide_eq_true_eq, atI0a, atI0b, atI0c, atI1b, atI1c, atI2c]; exact h
      · rw [decide_eq_false c2, Bool.false_and] at h
        simp only [decide_eq_false c2, wSeq, wNext, wIfS, wSetF, wSet, into, wSetIx, wRet, wRetN, wDrop, wB, wBin, wUn, wCB, wCons, wNil, wVar, wC, wIf, wAnd, wOr, wNot, wAndV, wOrV, wNotV, wTup, wLst, wSl, wNoPart, wPart, wChain, wUnp, wgTup, wgCons, wgNil, wName, wIsi, wListRg, wRg1, wRg2, wTupRg, wPuts, puts, Rz.sd, wConsH, wAppend, wExtend, ownL, dI, dI0, dIx, dInt, dAbs, dLen, dMax2, dMin2, dSum, dAll, dAny, dList, dTuple, dAdd, dNeg, dIsN, dNotN, PD.isN, dSl, look, looks, ok, Rz.pd, SD.pd, OD.pd, Rz.cold, Rz.cool, warm, pdsOf, frz, frzAll, leave, argOf, onceB, newBor, isBor, ty_non, ty_bl, ty_int, ty_str, ty_lst, ty_scr, ty_tup, ty_dct, isa, String.reduceBEq, beq_self_eq_true, Bool.false_and, Bool.and_false, Bool.not_true, Bool.or_self, wYes, wCall, backS_0, backS_1, backS_2, backS_3, backS_4, backS_o0, backS_o1, backS_o2, backS_o3, dEq_int, dEq_str, dNeX_int, dNeX_str, List.length_cons, List.length_nil, List.cons_append, List.nil_append, List.replicate, Nat.reduceAdd, Nat.reduceSub, List.getElem?_cons_zero, List.getElem?_cons_succ, Option.bind_some, List.set_cons_zero, List.set_cons_succ, List.map_cons, List.map_nil, List.any_cons, List.any_nil, List.getD_cons_zero, List.getD_cons_succ, true_or, or_true, true_and, and_true, Bool.and_true, Bool.true_and, Bool.or_false, Bool.false_or, Bool.not_false, Bool.not_true, Bool.or_true, Bool.true_or, decide_true, decide_false, wFor, wRng1, wRng2, wLc, wSeqI, items, wEnumX, wCallO, wNever, noOwn, List.all_cons, List.all_nil, wipeS, Bool.and_self, decide_eq_true_eq, atI0a, atI0b, atI0c, atI1b, atI1c, atI2c]; exact h
  · have ne1 : ("order" : Str) ≠ "any" := by decide +kernel
    unfold Poss at h
    rw [if_neg ne1, if_pos rfl] at h
    simp only [dEq_str sok_order sok_any, dEq_str sok_order sok_order, oa, oo, z2, z3, wSeq, wNext, wIfS, wSetF, wSet, into, wSetIx, wRet, wRetN, wDrop, wB, wBin, wUn, wCB, wCons, wNil, wVar, wC, wIf, wAnd, wOr, wNot, wAndV, wOrV, wNotV, wTup, wLst, wSl, wNoPart, wPart, wChain, wUnp, wgTup, wgCons, wgNil, wName, wIsi, wListRg, wRg1, wRg2, wTupRg, wPuts, puts, Rz.sd, wConsH, wAppend, wExtend, ownL, dI, dI0, dIx, dInt, dAbs, dLen, dMax2, dMin2, dSum, dAll, dAny, dList, dTuple, dAdd, dNeg, dIsN, dNotN, PD.isN, dSl, look, looks, ok, Rz.pd, SD.pd, OD.pd, Rz.cold, Rz.cool, warm, pdsOf, frz, frzAll, leave, argOf, onceB, newBor, isBor, ty_non, ty_bl, ty_int, ty_str, ty_lst, ty_scr, ty_tup, ty_dct, isa, String.reduceBEq, beq_self_eq_true, Bool.false_and, Bool.and_false, Bool.not_true, Bool.or_self, wYes, wCall, backS_0, backS_1, backS_2, backS_3, backS_4, backS_o0, backS_o1, backS_o2, backS_o3, dEq_int, dEq_str, dNeX_int, dNeX_str, List.length_cons, List.length_nil, List.cons_append, List.nil_append, List.replicate, Nat.reduceAdd, Nat.reduceSub, List.getElem?_cons_zero, List.getElem?_cons_succ, Option.bind_some, List.set_cons_zero, List.set_cons_succ, List.map_cons, List.map_nil, List.any_cons, List.any_nil, List.getD_cons_zero, List.getD_cons_succ, true_or, or_true, true_and, and_true, Bool.and_true, Bool.true_and, Bool.or_false, Bool.false_or, Bool.not_false, Bool.not_true, Bool.or_true, Bool.true_or, decide_true, decide_false, wFor, wRng1, wRng2, wLc, wSeqI, items, wEnumX, wCallO, wNever, noOwn, List.all_cons, List.all_nil, wipeS, Bool.and_self, decide_eq_true_eq, atI0a, atI0b, atI0c, atI1b, atI1c, atI2c]
    by_cases c1 : d + y ≤ x
    · rw [if_pos c1] at h
      simp only [decide_eq_true c1, wSeq, wNext, wIfS, wSetF, wSet, into, wSetIx, wRet, wRetN, wDrop, wB, wBin, wUn, wCB, wCons, wNil, wVar, wC, wIf, wAnd, wOr, wNot, wAndV, wOrV, wNotV, wTup, wLst, wSl, wNoPart, wPart, wChain, wUnp, wgTup, wgCons, wgNil, wName, wIsi, wListRg, wRg1, wRg2, wTupRg, wPuts, puts, Rz.sd, wConsH, wAppend, wExtend, ownL, dI, dI0, dIx, dInt, dAbs, dLen, dMax2, dMin2, dSum, dAll, dAny, dList, dTuple, dAdd, dNeg, dIsN, dNotN, PD.isN, dSl, look, looks, ok, Rz.pd, SD.pd, OD.pd, Rz.cold, Rz.cool, warm, pdsOf, frz, frzAll, leave, argOf, onceB, newBor, isBor, ty_non, ty_bl, ty_int, ty_str, ty_lst, ty_scr, ty_tup, ty_dct, isa, String.reduceBEq, beq_self_eq_true, Bool.false_and, Bool.and_false, Bool.not_true, Bool.or_self, wYes, wCall, backS_0, backS_1, backS_2, backS_3, backS_4, backS_o0, backS_o1, backS_o2, backS_o3, dEq_int, dEq_str, dNeX_int, dNeX_str, List.length_cons, List.length_nil, List.cons_append, List.nil_append, List.replicate, Nat.reduceAdd, Nat.reduceSub, List.getElem?_cons_zero, List.getElem?_cons_succ, Option.bind_some, List.set_cons_zero, List.set_cons_succ, List.map_cons, List.map_nil, List.any_cons, List.any_nil, List.getD_cons_zero, List.getD_cons_succ, true_or, or_true, true_and, and_true, Bool.and_true, Bool.true_and, Bool.or_false, Bool.false_or, Bool.not_false, Bool.not_true, Bool.or_true, Bool.true_or, decide_true, decide_false, wFor, wRng1, wRng2, wLc, wSeqI, items, wEnumX, wCallO, wNever, noOwn, List.all_cons, List.all_nil, wipeS, Bool.and_self, decide_eq_true_eq, atI0a, atI0b, atI0c, atI1b, atI1c, atI2c]
      exact h
    · rw [if_neg c1] at h
      simp only [decide_eq_false c1, wSeq, wNext, wIfS, wSetF, wSet, into, wSetIx, wRet, wRetN, wDrop, wB, wBin, wUn, wCB, wCons, wNil, wVar, wC, wIf, wAnd, wOr, wNot, wAndV, wOrV, wNotV, wTup, wLst, wSl, wNoPart, wPart, wChain, wUnp, wgTup, wgCons, wgNil, wName, wIsi, wListRg, wRg1, wRg2, wTupRg, wPuts, puts, Rz.sd, wConsH, wAppend, wExtend, ownL, dI, dI0, dIx, dInt, dAbs, dLen, dMax2, dMin2, dSum, dAll, dAny, dList, dTuple, dAdd, dNeg, dIsN, dNotN, PD.isN, dSl, look, looks, ok, Rz.pd, SD.pd, OD.pd, Rz.cold, Rz.cool, warm, pdsOf, frz, frzAll, leave, argOf, onceB, newBor, isBor, ty_non, ty_bl, ty_int, ty_str, ty_lst, ty_scr, ty_tup, ty_dct, isa, String.reduceBEq, beq_self_eq_true, Bool.false_and, Bool.and_false, Bool.not_true, Bool.or_self, wYes, wCall, backS_0, backS_1, backS_2, backS_3, backS_4, backS_o0, backS_o1, backS_o2, backS_o3, dEq_int, dEq_str, dNeX_int, dNeX_str, List.length_cons, List.length_nil, List.cons_append, List.nil_append, List.replicate, Nat.reduceAdd, Nat.reduceSub, List.getElem?_cons_zero, List.getElem?_cons_succ, Option.bind_some, List.set_cons_zero, List.set_cons_succ, List.map_cons, List.map_nil, List.any_cons, List.any_nil, List.getD_cons_zero, List.getD_cons_succ, true_or, or_true, true_and, and_true, Bool.and_true, Bool.true_and, Bool.or_false, Bool.false_or, Bool.not_false, Bool.not_true, Bool.or_true, Bool.true_or, decide_true, decide_false, wFor, wRng1, wRng2, wLc, wSeqI, items, wEnumX, wCallO, wNever, noOwn, List.all_cons, List.all_nil, wipeS, Bool.and_self, decide_eq_true_eq, atI0a, atI0b, atI0c, atI1b, atI1c, atI2c]
      by_cases c3 : 0 < d
      · rw [decide_eq_true c3, Bool.true_or] at h
        simp only [decide_eq_true c3, wSeq, wNext, wIfS, wSetF, wSet, into, wSetIx, wRet, wRetN, wDrop, wB, wBin, wUn, wCB, wCons, wNil, wVar, wC, wIf, wAnd, wOr, wNot, wAndV, wOrV, wNotV, wTup, wLst, wSl, wNoPart, wPart, wChain, wUnp, wgTup, wgCons, wgNil, wName, wIsi, wListRg, wRg1, wRg2, wTupRg, wPuts, puts, Rz.sd, wConsH, wAppend, wExtend, ownL, dI, dI0, dIx, dInt, dAbs, dLen, dMax2, dMin2, dSum, dAll, dAny, dList, dTuple, dAdd, dNeg, dIsN, dNotN, PD.isN, dSl, look, looks, ok, Rz.pd, SD.pd, OD.pd, Rz.cold, Rz.cool, warm, pdsOf, frz, frzAll, leave, argOf, onceB, newBor, isBor, ty_non, ty_bl, ty_int, ty_str, ty_lst, ty_scr, ty_tup, ty_dct, isa, String.reduceBEq, beq_self_eq_true, Bool.false_and, Bool.and_false, Bool.not_true, Bool.or_self, wYes, wCall, backS_0, backS_1, backS_2, backS_3, backS_4, backS_o0, backS_o1, backS_o2, backS_o3, dEq_int, dEq_str, dNeX_int, dNeX_str, List.length_cons, List.length_nil, List.cons_append, List.nil_append, List.replicate, Nat.reduceAdd, Nat.reduceSub, List.getElem?_cons_zero, List.getElem?_cons_succ, Option.bind_some, List.set_cons_zero, List.set_cons_succ, List.map_cons, List.map_nil, List.any_cons, List.any_nil, List.getD_cons_zero, List.getD_cons_succ, true_or, or_true, true_and, and_true, Bool.and_true, Bool.true_and, Bool.or_false, Bool.false_or, Bool.not_false, Bool.not_true, Bool.or_true, Bool.true_or, decide_true, decide_false, wFor, wRng1, wRng2, wLc, wSeqI, items, wEnumX, wCallO, wNever, noOwn, List.all_cons, List.all_nil, wipeS, Bool.and_self, decide_eq_true_eq, atI0a, atI0b, atI0c, atI1b, atI1c, atI2c]; exact h
      · rw [decide_eq_false c3, Bool.false_or] at h
        simp only [decide_eq_false c3, wSeq, wNext, wIfS, wSetF, wSet, into, wSetIx, wRet, wRetN, wDrop, wB, wBin, wUn, wCB, wCons, wNil, wVar, wC, wIf, wAnd, wOr, wNot, wAndV, wOrV, wNotV, wTup, wLst, wSl, wNoPart, wPart, wChain, wUnp, wgTup, wgCons, wgNil, wName, wIsi, wListRg, wRg1, wRg2, wTupRg, wPuts, puts, Rz.sd, wConsH, wAppend, wExtend, ownL, dI, dI0, dIx, dInt, dAbs, dLen, dMax2, dMin2, dSum, dAll, dAny, dList, dTuple, dAdd, dNeg, dIsN, dNotN, PD.isN, dSl, look, looks, ok, Rz.pd, SD.pd, OD.pd, Rz.cold, Rz.cool, warm, pdsOf, frz, frzAll, leave, argOf, onceB, newBor, isBor, ty_non, ty_bl, ty_int, ty_str, ty_lst, ty_scr, ty_tup, ty_dct, isa, String.reduceBEq, beq_self_eq_true, Bool.false_and, Bool.and_false, Bool.not_true, Bool.or_self, wYes, wCall, backS_0, backS_1, backS_2, backS_3, backS_4, backS_o0, backS_o1, backS_o2, backS_o3, dEq_int, dEq_str, dNeX_int, dNeX_str, List.length_cons, List.length_nil, List.cons_append, List.nil_append, List.replicate, Nat.reduceAdd, Nat.reduceSub, List.getElem?_cons_zero, List.getElem?_cons_succ, Option.bind_some, List.set_cons_zero, List.set_cons_succ, List.map_cons, List.map_nil, List.any_cons, List.any_nil, List.getD_cons_zero, List.getD_cons_succ, true_or, or_true, true_and, and_true, Bool.and_true, Bool.true_and, Bool.or_false, Bool.false_or, Bool.not_false, Bool.not_true, Bool.or_true, Bool.true_or, decide_true, decide_false, wFor, wRng1, wRng2, wLc, wSeqI, items, wEnumX, wCallO, wNever, noOwn, List.all_cons, List.all_nil, wipeS, Bool.and_self, decide_eq_true_eq, atI0a, atI0b, atI0c, atI1b, atI1c, atI2c]; exact h
  · unfold Poss at h
    rw [if_pos rfl] at h
    simp only [dEq_str sok_any sok_any, aa, z2, z3, wSeq, wNext, wIfS, wSetF, wSet, into, wSetIx, wRet, wRetN, wDrop, wB, wBin, wUn, wCB, wCons, wNil, wVar, wC, wIf, wAnd, wOr, wNot, wAndV, wOrV, wNotV, wTup, wLst, wSl, wNoPart, wPart, wChain, wUnp, wgTup, wgCons, wgNil, wName, wIsi, wListRg, wRg1, wRg2, wTupRg, wPuts, puts, Rz.sd, wConsH, wAppend, wExtend, ownL, dI, dI0, dIx, dInt, dAbs, dLen, dMax2, dMin2, dSum, dAll, dAny, dList, dTuple, dAdd, dNeg, dIsN, dNotN, PD.isN, dSl, look, looks, ok, Rz.pd, SD.pd, OD.pd, Rz.cold, Rz.cool, warm, pdsOf, frz, frzAll, leave, argOf, onceB, newBor, isBor, ty_non, ty_bl, ty_int, ty_str, ty_lst, ty_scr, ty_tup, ty_dct, isa, String.reduceBEq, beq_self_eq_true, Bool.false_and, Bool.and_false, Bool.not_true, Bool.or_self, wYes, wCall, backS_0, backS_1, backS_2, backS_3, backS_4, backS_o0, backS_o1, backS_o2, backS_o3, dEq_int, dEq_str, dNeX_int, dNeX_str, List.length_cons, List.length_nil, List.cons_append, List.nil_append, List.replicate, Nat.reduceAdd, Nat.reduceSub, List.getElem?_cons_zero, List.getElem?_cons_succ, Option.bind_some, List.set_cons_zero, List.set_cons_succ, List.map_cons, List.map_nil, List.any_cons, List.any_nil, List.getD_cons_zero, List.getD_cons_succ, true_or, or_true, true_and, and_true, Bool.and_true, Bool.true_and, Bool.or_false, Bool.false_or, Bool.not_false, Bool.not_true, Bool.or_true, Bool.true_or, decide_true, decide_false, wFor, wRng1, wRng2, wLc, wSeqI, items, wEnumX, wCallO, wNever, noOwn, List.all_cons, List.all_nil, wipeS, Bool.and_self, decide_eq_true_eq, atI0a, atI0b, atI0c, atI1b, atI1c, atI2c]
    by_cases c1 : x ≠ d + y
    · rw [decide_eq_true c1, Bool.true_and] at h
      simp only [decide_eq_true c1, wSeq, wNext, wIfS, wSetF, wSet, into, wSetIx, wRet, wRetN, wDrop, wB, wBin, wUn, wCB, wCons, wNil, wVar, wC, wIf, wAnd, wOr, wNot, wAndV, wOrV, wNotV, wTup, wLst, wSl, wNoPart, wPart, wChain, wUnp, wgTup, wgCons, wgNil, wName, wIsi, wListRg, wRg1, wRg2, wTupRg, wPuts, puts, Rz.sd, wConsH, wAppend, wExtend, ownL, dI, dI0, dIx, dInt, dAbs, dLen, dMax2, dMin2, dSum, dAll, dAny, dList, dTuple, dAdd, dNeg, dIsN, dNotN, PD.isN, dSl, look, looks, ok, Rz.pd, SD.pd, OD.pd, Rz.cold, Rz.cool, warm, pdsOf, frz, frzAll, leave, argOf, onceB, newBor, isBor, ty_non, ty_bl, ty_int, ty_str, ty_lst, ty_scr, ty_tup, ty_dct, isa, String.reduceBEq, beq_self_eq_true, Bool.false_and, Bool.and_false, Bool.not_true, Bool.or_self, wYes, wCall, backS_0, backS_1, backS_2, backS_3, backS_4, backS_o0, backS_o1, backS_o2, backS_o3, dEq_int, dEq_str, dNeX_int, dNeX_str, List.length_cons, List.length_nil, List.cons_append, List.nil_append, List.replicate, Nat.reduceAdd, Nat.reduceSub, List.getElem?_cons_zero, List.getElem?_cons_succ, Option.bind_some, List.set_cons_zero, List.set_cons_succ, List.map_cons, List.map_nil, List.any_cons, List.any_nil, List.getD_cons_zero, List.getD_cons_succ, true_or, or_true, true_and, and_true, Bool.and_true, Bool.true_and, Bool.or_false, Bool.false_or, Bool.not_false, Bool.not_true, Bool.or_true, Bool.true_or, decide_true, decide_false, wFor, wRng1, wRng2, wLc, wSeqI, items, wEnumX, wCallO, wNever, noOwn, List.all_cons, List.all_nil, wipeS, Bool.and_self, decide_eq_true_eq, atI0a, atI0b, atI0c, atI1b, atI1c, atI2c]
      by_cases c3 : 0 < d
      · rw [decide_eq_true c3, Bool.true_or] at h
        simp only [decide_eq_true c3, wSeq, wNext, wIfS, wSetF, wSet, into, wSetIx, wRet, wRetN, wDrop, wB, wBin, wUn, wCB, wCons, wNil, wVar, wC, wIf, wAnd, wOr, wNot, wAndV, wOrV, wNotV, wTup, wLst, wSl, wNoPart, wPart, wChain, wUnp, wgTup, wgCons, wgNil, wName, wIsi, wListRg, wRg1, wRg2, wTupRg, wPuts, puts, Rz.sd, wConsH, wAppend, wExtend, ownL, dI, dI0, dIx, dInt, dAbs, dLen, dMax2, dMin2, dSum, dAll, dAny, dList, dTuple, dAdd, dNeg, dIsN, dNotN, PD.isN, dSl, look, looks, ok, Rz.pd, SD.pd, OD.pd, Rz.cold, Rz.cool, warm, pdsOf, frz, frzAll, leave, argOf, onceB, newBor, isBor, ty_non, ty_bl, ty_int, ty_str, ty_lst, ty_scr, ty_tup, ty_dct, isa, String.reduceBEq, beq_self_eq_true, Bool.false_and, Bool.and_false, Bool.not_true, Bool.or_self, wYes, wCall, backS_0, backS_1, backS_2, backS_3, backS_4, backS_o0, backS_o1, backS_o2, backS_o3, dEq_int, dEq_str, dNeX_int, dNeX_str, List.length_cons, List.length_nil, List.cons_append, List.nil_append, List.replicate, Nat.reduceAdd, Nat.reduceSub, List.getElem?_cons_zero, List.getElem?_cons_succ, Option.bind_some, List.set_cons_zero, List.set_cons_succ, List.map_cons, List.map_nil, List.any_cons, List.any_nil, List.getD_cons_zero, List.getD_cons_succ, true_or, or_true, true_and, and_true, Bool.and_true, Bool.true_and, Bool.or_false, Bool.false_or, Bool.not_false, Bool.not_true, Bool.or_true, Bool.true_or, decide_true, decide_false, wFor, wRng1, wRng2, wLc, wSeqI, items, wEnumX, wCallO, wNever, noOwn, List.all_cons, List.all_nil, wipeS, Bool.and_self, decide_eq_true_eq, atI0a, atI0b, atI0c, atI1b, atI1c, atI2c]; exact h
      · rw [decide_eq_false c3, Bool.false_or] at h
        simp only [decide_eq_false c3, wSeq, wNext, wIfS, wSetF, wSet, into, wSetIx, wRet, wRetN, wDrop, wB, wBin, wUn, wCB, wCons, wNil, wVar, wC, wIf, wAnd, wOr, wNot, wAndV, wOrV, wNotV, wTup, wLst, wSl, wNoPart, wPart, wChain, wUnp, wgTup, wgCons, wgNil, wName, wIsi, wListRg, wRg1, wRg2, wTupRg, wPuts, puts, Rz.sd, wConsH, wAppend, wExtend, ownL, dI, dI0, dIx, dInt, dAbs, dLen, dMax2, dMin2, dSum, dAll, dAny, dList, dTuple, dAdd, dNeg, dIsN, dNotN, PD.isN, dSl, look, looks, ok, Rz.pd, SD.pd, OD.pd, Rz.cold, Rz.cool, warm, pdsOf, frz, frzAll, leave, argOf, onceB, newBor, isBor, ty_non, ty_bl, ty_int, ty_str, ty_lst, ty_scr, ty_tup, ty_dct, isa, String.reduceBEq, beq_self_eq_true, Bool.false_and, Bool.and_false, Bool.not_true, Bool.or_self, wYes, wCall, backS_0, backS_1, backS_2, backS_3, backS_4, backS_o0, backS_o1, backS_o2, backS_o3, dEq_int, dEq_str, dNeX_int, dNeX_str, List.length_cons, List.length_nil, List.cons_append, List.nil_append, List.replicate, Nat.reduceAdd, Nat.reduceSub, List.getElem?_cons_zero, List.getElem?_cons_succ, Option.bind_some, List.set_cons_zero, List.set_cons_succ, List.map_cons, List.map_nil, List.any_cons, List.any_nil, List.getD_cons_zero, List.getD_cons_succ, true_or, or_true, true_and, and_true, Bool.and_true, Bool.true_and, Bool.or_false, Bool.false_or, Bool.not_false, Bool.not_true, Bool.or_true, Bool.true_or, decide_true, decide_false, wFor, wRng1, wRng2, wLc, wSeqI, items, wEnumX, wCallO, wNever, noOwn, List.all_cons, List.all_nil, wipeS, Bool.and_self, decide_eq_true_eq, atI0a, atI0b, atI0c, atI1b, atI1c, atI2c]; exact h
    · rw [decide_eq_false c1, Bool.false_and] at h
      simp only [decide_eq_false c1, wSeq, wNext, wIfS, wSetF, wSet, into, wSetIx, wRet, wRetN, wDrop, wB, wBin, wUn, wCB, wCons, wNil, wVar, wC, wIf, wAnd, wOr, wNot, wAndV, wOrV, wNotV, wTup, wLst, wSl, wNoPart, wPart, wChain, wUnp, wgTup, wgCons, wgNil, wName, wIsi, wListRg, wRg1, wRg2, wTupRg, wPuts, puts, Rz.sd, wConsH, wAppend, wExtend, ownL, dI, dI0, dIx, dInt, dAbs, dLen, dMax2, dMin2, dSum, dAll, dAny, dList, dTuple, dAdd, dNeg, dIsN, dNotN, PD.isN, dSl, look, looks, ok, Rz.pd, SD.pd, OD.pd, Rz.cold, Rz.cool, warm, pdsOf, frz, frzAll, leave, argOf, onceB, newBor, isBor, ty_non, ty_bl, ty_int, ty_str, ty_lst, ty_scr, ty_tup, ty_dct, isa, String.reduceBEq, beq_self_eq_true, Bool.false_and, Bool.and_false, Bool.not_true, Bool.or_self, wYes, wCall, backS_0, backS_1, backS_2, backS_3, backS_4, backS_o0, backS_o1, backS_o2, backS_o3, dEq_int, dEq_str, dNeX_int, dNeX_str, List.length_cons, List.length_nil, List.cons_append, List.nil_append, List.replicate, Nat.reduceAdd, Nat.reduceSub, List.getElem?_cons_zero, List.getElem?_cons_succ, Option.bind_some, List.set_cons_zero, List.set_cons_succ, List.map_cons, List.map_nil, List.any_cons, List.any_nil, List.getD_cons_zero, List.getD_cons_succ, true_or, or_true, true_and, and_true, Bool.and_true, Bool.true_and, Bool.or_false, Bool.false_or, Bool.not_false, Bool.not_true, Bool.or_true, Bool.true_or, decide_true, decide_false, wFor, wRng1, wRng2, wLc, wSeqI, items, wEnumX, wCallO, wNever, noOwn, List.all_cons, List.all_nil, wipeS, Bool.and_self, decide_eq_true_eq, atI0a, atI0b, atI0c, atI1b, atI1c, atI2c]; exact h
/-! ### enumerated -/
theorem enum_rg (xs : List PD) : enumP xs = (List.range' 0 xs.length).map fun i => PD.tup [.int (i : Nat), xs.getD i .non] := by
  unfold enumP
  refine List.ext_getElem? fun i => ?_
  rw [List.getElem?_mapIdx, List.getElem?_map]
  by_cases h : i < xs.length
  · rw [List.getElem?_eq_getElem h, List.getElem?_range' (by omega)]
    simp [List.getD_eq_getElem?_getD, List.getElem?_eq_getElem h]
  · rw [List.getElem?_eq_none (by omega), List.getElem?_eq_none (by rw [List.length_range']; omega)]
    rfl
end DL

set_option Elab.async false
set_option linter.all false
set_option maxRecDepth 100000
set_option maxHeartbeats 4000000
namespace DL
open PySem L2
/-! ### loops, by what stands ahead of turn k -/
theorem forL_upto {wg : Wg} {wb : Ws} {O : On} (I : Nat → Sl → Prop) : ∀ (ds : List PD) (k : Nat) (ρ : Sl), I k ρ →
    (∀ (j : Nat) (d : PD) (ρ : Sl) (N : Sl → Prop), ds[j]? = some d → I (k + j) ρ → (∀ ρ', I (k + j + 1) ρ' → N ρ') → wg d ρ fun ρ' => wb { nx := N, rt := O.rt, bk := O.nx, ct := N } ρ') →
    (∀ ρ, I (k + ds.length) ρ → O.nx ρ) → forL wg wb ds O ρ
  | [], k, ρ, hI, _, ho => ho ρ hI
  | d :: ds, k, ρ, hI, h, ho => h 0 d ρ _ rfl hI fun ρ' h' => forL_upto I ds (k + 1) ρ' h' (fun j d' ρ N hj hI' hN => h (j + 1) d' ρ N (by simpa using hj) (by
        have e : k + (j + 1) = k + 1 + j := by omega
        rw [e]; exact hI') (fun ρ' q => hN ρ' (by
        have e : k + 1 + j + 1 = k + (j + 1) + 1 := by omega
        rw [e]; exact q)))
      (fun ρ q => ho ρ (by
        have e : k + (d :: ds).length = k + 1 + ds.length := by rw [List.length_cons]; omega
        rw [e]; exact q))
theorem compL_upto {vs : List Nat} {wg : Wg} {wt : Wt} {we : We} {Q : List PD → Sl → Prop} (I : Nat → List PD → Sl → Prop) : ∀ (ds : List PD) (k : Nat) (acc : List PD) (ρ : Sl), I k acc ρ →
    (∀ (j : Nat) (d : PD) (acc : List PD) (ρ : Sl) (N : List PD → Sl → Prop), ds[j]? = some d → I (k + j) acc ρ → (∀ acc' ρ', I (k + j + 1) acc' ρ' → N acc' ρ') → wg d ρ fun ρ' => wt ρ' fun b ρ2 => match b with
      | true => we ρ2 fun r ρ3 => warm r ρ3 ∧ frz [r.cool] ρ3 fun es ρ4 => match es with
        | [y] => acc.length < sizeLine ∧ N (acc ++ [y]) (wipeS ρ4 vs)
        | _ => False
      | false => N acc (wipeS ρ2 vs)) →
    (∀ acc ρ, I (k + ds.length) acc ρ → Q acc ρ) → compL vs wg wt we ds acc Q ρ
  | [], k, acc, ρ, hI, _, ho => ho acc ρ hI
  | d :: ds, k, acc, ρ, hI, h, ho => h 0 d acc ρ (fun acc' ρ' => compL vs wg wt we ds acc' Q ρ') rfl hI fun acc' ρ' h' => compL_upto I ds (k + 1) acc' ρ' h' (fun j d' acc ρ N hj hI' hN => h (j + 1) d' acc ρ N (by simpa using hj) (by
        have e : k + (j + 1) = k + 1 + j := by omega
        rw [e]; exact hI') (fun acc' ρ' q => hN acc' ρ' (by
        have e : k + 1 + j + 1 = k + (j + 1) + 1 := by omega
        rw [e]; exact q)))
      (fun acc ρ q => ho acc ρ (by
        have e : k + (d :: ds).length = k + 1 + ds.length := by rw [List.length_cons]; omega
        rw [e]; exact q))
/-- [g of x for x in ds], slot v being the comprehension's -/
theorem compL_map {v : Nat} {we : We} {g : PD → PD} {ρ : Sl} {Q : List PD → Sl → Prop} (hv : ρ[v]? = some .emp) {ds : List PD} (hz : ds.length < 100000) (h : ∀ d ∈ ds, ∀ Q' : Rz → Sl → Prop, Q' (.dat (g d)) (ρ.set v (.dat d)) → we (ρ.set v (.dat d)) Q')
    (hQ : Q (ds.map g) ρ) : compL [v] (wName v) wYes we ds [] Q ρ := by
  have hl := (List.getElem?_eq_some_iff.mp hv).1
  have back : ∀ s, (ρ.set v s).set v .emp = ρ := fun s => by
    rw [List.set_set]
    refine List.ext_getElem? fun i => ?_
    by_cases hi : i = v
    · subst hi; rw [List.getElem?_set_self hl, hv]
    · rw [List.getElem?_set_ne (Ne.symm hi)]
  refine compL_upto (fun k acc ρ' => ρ' = ρ ∧ acc = (ds.take k).map g) ds 0 [] ρ ⟨rfl, rfl⟩ (fun j d acc ρ' N hj hI hN => ?_) (fun acc ρ' hI => ?_)
  · obtain ⟨rfl, rfl⟩ := hI
    have hjl := (List.getElem?_eq_some_iff.mp hj).1
    simp only [wName, wYes]
    refine h d (List.mem_of_getElem? hj) _ ?_
    simp only [wSeq, wNext, wIfS, wSetF, wSet, into, wSetIx, wRet, wRetN, wDrop, wB, wBin, wUn, wCB, wCons, wNil, wVar, wC, wIf, wAnd, wOr, wNot, wAndV, wOrV, wNotV, wTup, wLst, wSl, wNoPart, wPart, wChain, wUnp, wgTup, wgCons, wgNil, wName, wIsi, wListRg, wRg1, wRg2, wTupRg, wPuts, puts, Rz.sd, wConsH, wAppend, wExtend, ownL, dI, dI0, dIx, dInt, dAbs, dLen, dMax2, dMin2, dSum, dAll, dAny, dList, dTuple, dAdd, dNeg, dIsN, dNotN, PD.isN, dSl, look, looks, ok, Rz.pd, SD.pd, OD.pd, Rz.cold, Rz.cool, warm, pdsOf, frz, frzAll, leave, argOf, onceB, newBor, isBor, ty_non, ty_bl, ty_int, ty_str, ty_lst, ty_scr, ty_tup, ty_dct, isa, String.reduceBEq, beq_self_eq_true, Bool.false_and, Bool.and_false, Bool.not_true, Bool.or_self, wYes, wCall, backS_0, backS_1, backS_2, backS_3, backS_4, backS_o0, backS_o1, backS_o2, backS_o3, dEq_int, dEq_str, dNeX_int, dNeX_str, List.length_cons, List.length_nil, List.cons_append, List.nil_append, List.replicate, Nat.reduceAdd, Nat.reduceSub, List.getElem?_cons_zero, List.getElem?_cons_succ, Option.bind_some, List.set_cons_zero, List.set_cons_succ, List.map_cons, List.map_nil, List.any_cons, List.any_nil, List.getD_cons_zero, List.getD_cons_succ, true_or, or_true, true_and, and_true, Bool.and_true, Bool.true_and, Bool.or_false, Bool.false_or, Bool.not_false, Bool.not_true, Bool.or_true, Bool.true_or, decide_true, decide_false, wFor, wRng1, wRng2, wLc, wSeqI, items, wEnumX, wCallO, wNever, noOwn, List.all_cons, List.all_nil, wipeS, Bool.and_self, decide_eq_true_eq, atI0a, atI0b, atI0c, atI1b, atI1c, atI2c]
    refine ⟨by rw [List.length_map, List.length_take]; exact sz' (by omega), ?_⟩
    refine hN _ _ ⟨back _, ?_⟩
    rw [Nat.zero_add, List.take_add_one, hj, List.map_append]
    rfl
  · obtain ⟨rfl, rfl⟩ := hI
    rw [Nat.zero_add, List.take_length]
    exact hQ
end DL

set_option Elab.async false
set_option linter.all false
set_option maxRecDepth 100000
set_option maxHeartbeats 4000000
namespace Lk
open PySem L2 DL
/-- no error is made here -/
structure Exx (P : Program) (w : World) (K : PySem.W.Frag) (mg : Str → Option Value) (base : Heap) (fI : Addr) : Prop where
  ex : True
theorem room66 {k : Nat} {A : Around} (hr : Room k A) : A.units + 66 < cLine := by have := hr.un; omega
def top (i : Nat) : Stmt := PySem.Challenge.pw_queueloops_k25_whole_which_services_figu.main.body.getD i (.Pass ⟨0, 0, 0, 0⟩)
abbrev c_GREATEST_BASE : PD := .int 4
abbrev c_LEAST_BASE : PD := .int 2
abbrev c_MOST_AT_SLOT : PD := .int 4
abbrev c_MOST_BASES : PD := .int 40
abbrev c_WORDS : PD := .tup [.str "queue", .str "order", .str "any"]
def kb (j i : Nat) : Bool := i == j || j == 2
structure Gx (K : PySem.W.Frag) (mg : Str → Option Value) (cl : Nat → Addr) (fI : Addr) : Prop where
  b_abs : mg "abs" = none
  b_all : mg "all" = none
  b_any : mg "any" = none
  b_bool : mg "bool" = none
  b_enumerate : mg "enumerate" = none
  b_int : mg "int" = none
  b_isinstance : mg "isinstance" = none
  b_len : mg "len" = none
  b_list : mg "list" = none
  b_max : mg "max" = none
  b_min : mg "min" = none
  b_range : mg "range" = none
  b_repr : mg "repr" = none
  b_sorted : mg "sorted" = none
  b_str : mg "str" = none
  b_sum : mg "sum" = none
  b_tuple : mg "tuple" = none
  b_zip : mg "zip" = none
  c_GREATEST_BASE : Const K mg "GREATEST_BASE" c_GREATEST_BASE
  c_LEAST_BASE : Const K mg "LEAST_BASE" c_LEAST_BASE
  c_MOST_AT_SLOT : Const K mg "MOST_AT_SLOT" c_MOST_AT_SLOT
  c_MOST_BASES : Const K mg "MOST_BASES" c_MOST_BASES
  c_WORDS : Const K mg "WORDS" c_WORDS

/-! _law_take -/
abbrev s__law_take : Stmt := top 24
abbrev N__law_take : List Str := ["pot", "upto", "prime", "blend", "digit"]
theorem sc__law_take : FnScope N__law_take ["pot", "upto"] (defScope s__law_take) := ⟨rfl, rfl, rfl, by decide +kernel, rfl, by decide +kernel, by decide +kernel⟩
def w__law_take (cl : Nat → Addr) (Ξ : Xp) : Ws := (wSeq (wIfS (wB (wBin (dI0 fun i j => .bl (decide (j < i))) (wBin dIx (wVar 0) (wC (.int 0))) (wC (.int 0)))) (wSeq (wSetF 4 (wBin (dI CPos fun i j => .int (i % j)) (wCB dInt (wCons (wBin dIx (wVar 0) (wC (.int 0))) wNil)) (wVar 1)))
  (wSeq (wSetIx 0 (wBin (dI CDivW fun i j => .int (i / j)) (wBin dIx (wVar 0) (wC (.int 0))) (wVar 1)) (wC (.int 0)))
  (wRet (wVar 4)))) wNext)
  (wSeq (wSetIx 0 (wBin dAdd (wBin dIx (wVar 0) (wC (.int 2))) (wC (.int 1))) (wC (.int 2)))
  (wSeq (wSetF 2 (wBin dIx (wLst (wCons (wC (.int 2147483647)) (wCons (wC (.int 2147483629)) (wCons (wC (.int 2147483587)) (wCons (wC (.int 2147483579)) (wCons (wC (.int 2147483563)) wNil)))))) (wBin (dI CPos fun i j => .int (i % j)) (wCB dInt (wCons (wBin dIx (wVar 0) (wC (.int 2))) wNil)) (wC (.int 5)))))
  (wSeq (wSetF 3 (wBin (dI CPos fun i j => .int (i % j)) (wCB dInt (wCons (wBin (dI CPowX fun i j => .int (i ^ j.toNat)) (wCB dInt (wCons (wBin dAdd (wBin dAdd (wBin dIx (wVar 0) (wC (.int 1))) (wBin (dI CMulX fun i j => .int (i * j)) (wBin (dI CMulX fun i j => .int (i * j)) (wC (.int 98301)) (wBin dIx (wVar 0) (wC (.int 2)))) (wBin dIx (wVar 0) (wC (.int 2))))) (wC (.int 453))) wNil)) (wC (.int 3))) wNil)) (wVar 2)))
  (wSeq (wSetF 3 (wBin (dI CPos fun i j => .int (i % j)) (wCB dInt (wCons (wBin (dI CMulX fun i j => .int (i * j)) (wVar 3) (wBin dAdd (wBin (dI CPos fun i j => .int (i % j)) (wCB dInt (wCons (wVar 3) wNil)) (wC (.int 10009))) (wBin (dI CMulX fun i j => .int (i * j)) (wC (.int 89)) (wBin dIx (wVar 0) (wC (.int 2)))))) wNil)) (wC (.int 2305843009213693907))))
  (wRet (wBin (dI CPos fun i j => .int (i % j)) (wCB dInt (wCons (wBin (dI CDivW fun i j => .int (i / j)) (wVar 3) (wC (.int 173))) wNil)) (wVar 1))))))))
def F__law_take (cl : Nat → Addr) : Fd := mkF (pin [0, 1]) 5 (w__law_take cl)
theorem cal__law_take {P : Program} {w : World} {K : PySem.W.Frag} {Ts : List (Addr × Str)} {mg : Str → Option Value} {base : Heap} {cl : Nat → Addr} {fI : Addr} (G : Gx K mg cl fI) (EX : Exx P w K mg base fI) (D : Dfn K mg "_law_take" s__law_take none)  : CalS P w K Ts mg base 1 "_law_take" s__law_take ["pot", "upto"] (F__law_take cl) :=
  cal_of D sc__law_take fun f cdv hcd A outer s H E B G0 Ξ lk hr hgd => ⟨_, (dss_cons (ds_if (dt_cmp dc_gt (de_ix (dv 0) de_int) de_int) (dss_cons (ds_setF rfl sc__law_take.nd rfl (by first | exact Or.inl rfl | exact Or.inr rfl) (de_mod (de_callT db_int G.b_int (by decide +kernel) (da_cons (de_ix (dv 0) de_int) da_nil)) (dv 1)))
      (dss_cons (ds_setIx (de_fdiv (de_ix (dv 0) de_int) (dv 1)) (dv 0) de_int)
      (dss_one (ds_ret (dv 4))))) dss_nil)
      (dss_cons (ds_setIx (de_add (de_ix (dv 0) de_int) de_int) (dv 0) de_int)
      (dss_cons (ds_setF rfl sc__law_take.nd rfl (by first | exact Or.inl rfl | exact Or.inr rfl) (de_ix (de_lst (da_cons de_int (da_cons de_int (da_cons de_int (da_cons de_int (da_cons de_int da_nil)))))) (de_mod (de_callT db_int G.b_int (by decide +kernel) (da_cons (de_ix (dv 0) de_int) da_nil)) de_int)))
      (dss_cons (ds_setF rfl sc__law_take.nd rfl (by first | exact Or.inl rfl | exact Or.inr rfl) (de_mod (de_callT db_int G.b_int (by decide +kernel) (da_cons (de_pow (de_callT db_int G.b_int (by decide +kernel) (da_cons (de_add (de_add (de_ix (dv 0) de_int) (de_mul (de_mul de_int (de_ix (dv 0) de_int)) (de_ix (dv 0) de_int))) de_int) da_nil)) de_int) da_nil)) (dv 2)))
      (dss_cons (ds_setF rfl sc__law_take.nd rfl (by first | exact Or.inl rfl | exact Or.inr rfl) (de_mod (de_callT db_int G.b_int (by decide +kernel) (da_cons (de_mul (dv 3) (de_add (de_mod (de_callT db_int G.b_int (by decide +kernel) (da_cons (dv 3) da_nil)) de_int) (de_mul de_int (de_ix (dv 0) de_int)))) da_nil)) de_int))
      (dss_one (ds_ret (de_mod (de_callT db_int G.b_int (by decide +kernel) (da_cons (de_fdiv (dv 3) de_int) da_nil)) (dv 1)))))))))⟩

/-! _law_of -/
abbrev s__law_of : Stmt := top 25
abbrev N__law_of : List Str := ["pot", "some"]
theorem sc__law_of : FnScope N__law_of ["pot", "some"] (defScope s__law_of) := ⟨rfl, rfl, rfl, by decide +kernel, rfl, by decide +kernel, by decide +kernel⟩
def w__law_of (cl : Nat → Addr) (Ξ : Xp) : Ws := (wRet (wBin dIx (wVar 1) (wCall 2 (F__law_take cl) noX (wCons (wVar 0) (wCons (wCB dLen (wCons (wVar 1) wNil)) wNil)))))
def F__law_of (cl : Nat → Addr) : Fd := mkF (pin [0, 1]) 2 (w__law_of cl)
theorem cal__law_of {P : Program} {w : World} {K : PySem.W.Frag} {Ts : List (Addr × Str)} {mg : Str → Option Value} {base : Heap} {cl : Nat → Addr} {fI : Addr} (G : Gx K mg cl fI) (EX : Exx P w K mg base fI) (D : Dfn K mg "_law_of" s__law_of none) (C__law_take : Cal P w K Ts mg base 1 "_law_take" ["pot", "upto"] (F__law_take cl)) : CalS P w K Ts mg base 2 "_law_of" s__law_of ["pot", "some"] (F__law_of cl) :=
  cal_of D sc__law_of fun f cdv hcd A outer s H E B G0 Ξ lk hr hgd => ⟨_, (dss_one (ds_ret (de_ix (dv 1) (by exact de_calN (KF := K) (Ts := Ts) C__law_take (hr.mono (by decide : 1 ≤ 1)) hgd (by exact (da_cons (dv 0) (da_cons (de_callB db_len G.b_len (by decide +kernel) (da_cons (dv 1) da_nil)) da_nil)))))))⟩

/-! _law_bases -/
abbrev s__law_bases : Stmt := top 30
abbrev N__law_bases : List Str := ["pot", "most", "reach", "lap", "found", "many", "base"]
theorem sc__law_bases : FnScope N__law_bases ["pot", "most", "reach"] (defScope s__law_bases) := ⟨rfl, rfl, rfl, by decide +kernel, rfl, by decide +kernel, by decide +kernel⟩
def w__law_bases (cl : Nat → Addr) (Ξ : Xp) : Ws := (wSeq (wPuts [4, 5] (wConsH (wLst wNil) (wConsH (wC (.int 1)) wNil)))
  (wSeq (wFor (wRng1 (wCons (wBin dAdd (wC (.int 1)) (wCall 2 (F__law_take cl) noX (wCons (wVar 0) (wCons (wVar 1) wNil)))) wNil)) (wName 3) (wSeq (wSetF 6 (wCall 2 (F__law_of cl) noX (wCons (wVar 0) (wCons (wLst (wCons (wC (.int 2)) (wCons (wC (.int 2)) (wCons (wC (.int 3)) (wCons (wC (.int 3)) (wCons (wC (.int 4)) wNil)))))) wNil))))
  (wSeq (wIfS (wB (wBin (dI0 fun i j => .bl (decide (j < i))) (wBin (dI CMulX fun i j => .int (i * j)) (wVar 5) (wVar 6)) (wVar 2))) wBreak wNext)
  (wSeq (wDrop (wAppend 4 (wCons (wCB dInt (wCons (wVar 6) wNil)) wNil)))
  (wSetF 5 (wBin (dI CMulX fun i j => .int (i * j)) (wVar 5) (wVar 6)))))))
  (wRet (wIf (wB (wBin dNeX (wVar 4) (wLst wNil))) (wCB dTuple (wCons (wVar 4) wNil)) (wTup (wCons (wC (.int 2)) wNil))))))
def F__law_bases (cl : Nat → Addr) : Fd := mkF (pin [0, 1, 2]) 7 (w__law_bases cl)
theorem cal__law_bases {P : Program} {w : World} {K : PySem.W.Frag} {Ts : List (Addr × Str)} {mg : Str → Option Value} {base : Heap} {cl : Nat → Addr} {fI : Addr} (G : Gx K mg cl fI) (EX : Exx P w K mg base fI) (D : Dfn K mg "_law_bases" s__law_bases none) (C__law_of : Cal P w K Ts mg base 2 "_law_of" ["pot", "some"] (F__law_of cl)) (C__law_take : Cal P w K Ts mg base 1 "_law_take" ["pot", "upto"] (F__law_take cl)) : CalS P w K Ts mg base 3 "_law_bases" s__law_bases ["pot", "most", "reach"] (F__law_bases cl) :=
  cal_of D sc__law_bases fun f cdv hcd A outer s H E B G0 Ξ lk hr hgd => ⟨_, (dss_cons (ds_puts2 rfl rfl sc__law_bases.nd rfl rfl (by decide) rfl rfl (dah_cons (de_lst da_nil) (dah_cons de_int dah_nil)) (by rfl))
      (dss_cons (ds_for PassesOwn.leaving rfl (di_rng1 rfl G.b_range (da_cons (de_add de_int (by exact de_calN (KF := K) (Ts := Ts) C__law_take (hr.mono (by decide : 1 ≤ 2)) hgd (by exact (da_cons (dv 0) (da_cons (dv 1) da_nil))))) da_nil)) (dg_name rfl sc__law_bases.nd rfl (by first | exact Or.inl rfl | exact Or.inr rfl)) (dss_cons (ds_setF rfl sc__law_bases.nd rfl (by first | exact Or.inl rfl | exact Or.inr rfl) (by exact de_calN (KF := K) (Ts := Ts) C__law_of (hr.mono (by decide : 2 ≤ 2)) hgd (by exact (da_cons (dv 0) (da_cons (de_lst (da_cons de_int (da_cons de_int (da_cons de_int (da_cons de_int (da_cons de_int da_nil)))))) da_nil)))))
      (dss_cons (ds_if (dt_cmp dc_gt (de_mul (dv 5) (dv 6)) (dv 2)) (dss_one ds_break) dss_nil)
      (dss_cons (ds_expr (de_append (dv 4) (da_cons (de_callT db_int G.b_int (by decide +kernel) (da_cons (dv 6) da_nil)) da_nil)))
      (dss_one (ds_setF rfl sc__law_bases.nd rfl (by first | exact Or.inl rfl | exact Or.inr rfl) (de_mul (dv 5) (dv 6))))))))
      (dss_one (ds_ret (de_if (dt_cmp (dc_neX hr.units) (dv 4) (de_lst da_nil)) (de_callT db_tuple G.b_tuple (by decide +kernel) (da_cons (dv 4) da_nil)) (de_tup (da_cons de_int da_nil)))))))⟩

/-! _law_weights -/
abbrev s__law_weights : Stmt := top 31
abbrev N__law_weights : List Str := ["bases", "found", "base"]
theorem sc__law_weights : FnScope N__law_weights ["bases"] (defScope s__law_weights) := ⟨rfl, rfl, rfl, by decide +kernel, rfl, by decide +kernel, by decide +kernel⟩
def w__law_weights (cl : Nat → Addr) (Ξ : Xp) : Ws := (wSeq (wSet 1 (wLst (wCons (wC (.int 1)) wNil)))
  (wSeq (wFor (wSeqI (wVar 0)) (wName 2) (wDrop (wAppend 1 (wCons (wBin (dI CMulX fun i j => .int (i * j)) (wBin dIx (wVar 1) (wUn dNeg (wC (.int 1)))) (wVar 2)) wNil))))
  (wRet (wVar 1))))
def F__law_weights (cl : Nat → Addr) : Fd := mkF (pin [0]) 3 (w__law_weights cl)
theorem cal__law_weights {P : Program} {w : World} {K : PySem.W.Frag} {Ts : List (Addr × Str)} {mg : Str → Option Value} {base : Heap} {cl : Nat → Addr} {fI : Addr} (G : Gx K mg cl fI) (EX : Exx P w K mg base fI) (D : Dfn K mg "_law_weights" s__law_weights none)  : CalS P w K Ts mg base 1 "_law_weights" s__law_weights ["bases"] (F__law_weights cl) :=
  cal_of D sc__law_weights fun f cdv hcd A outer s H E B G0 Ξ lk hr hgd => ⟨_, (dss_cons (ds_set rfl sc__law_weights.nd rfl (by first | exact Or.inl rfl | exact Or.inr rfl) (de_lst (da_cons de_int da_nil)))
      (dss_cons (ds_for PassesOwn.leaving rfl (di_seq (dv 0)) (dg_name rfl sc__law_weights.nd rfl (by first | exact Or.inl rfl | exact Or.inr rfl)) (dss_one (ds_expr (de_append (dv 1) (da_cons (de_mul (de_ix (dv 1) (de_neg de_int)) (dv 2)) da_nil)))))
      (dss_one (ds_ret (dv 1)))))⟩

/-! _law_figures_own -/
abbrev s__law_figures_own : Stmt := top 33
abbrev N__law_figures_own : List Str := ["bases", "at", "base", "weight"]
theorem sc__law_figures_own : FnScope N__law_figures_own ["bases"] (defScope s__law_figures_own) := ⟨rfl, rfl, rfl, by decide +kernel, rfl, by decide +kernel, by decide +kernel⟩
def w__law_figures_own (cl : Nat → Addr) (Ξ : Xp) : Ws := (wRet (wLc [2, 3] (wZipX (wCons (wVar 0) (wCons (wCall 1 (F__law_weights cl) noX (wCons (wVar 0) wNil)) wNil))) (wgTup 2 (wgCons (wName 2) (wgCons (wName 3) wgNil))) wYes (wLc [1] (wRng1 (wCons (wVar 2) wNil)) (wName 1) wYes (wCB dInt (wCons (wBin (dI CMulX fun i j => .int (i * j)) (wVar 1) (wVar 3)) wNil)))))
def F__law_figures_own (cl : Nat → Addr) : Fd := mkF (pin [0]) 4 (w__law_figures_own cl)
theorem cal__law_figures_own {P : Program} {w : World} {K : PySem.W.Frag} {Ts : List (Addr × Str)} {mg : Str → Option Value} {base : Heap} {cl : Nat → Addr} {fI : Addr} (G : Gx K mg cl fI) (EX : Exx P w K mg base fI) (D : Dfn K mg "_law_figures_own" s__law_figures_own none) (C__law_weights : Cal P w K Ts mg base 1 "_law_weights" ["bases"] (F__law_weights cl)) : CalS P w K Ts mg base 2 "_law_figures_own" s__law_figures_own ["bases"] (F__law_figures_own cl) :=
  cal_of D sc__law_figures_own fun f cdv hcd A outer s H E B G0 Ξ lk hr hgd => ⟨_, (dss_one (ds_ret (de_lc (own := [("base", 2), ("weight", 3)]) (by rfl) sc__law_figures_own.nd (by decide) (di_zipX G.b_zip (da_cons (dv 0) (da_cons (by exact de_calN (KF := K) (Ts := Ts) C__law_weights (hr.mono (by decide : 1 ≤ 1)) hgd (by exact (da_cons (dv 0) da_nil))) da_nil))) (blkOk_by (N := N__law_figures_own) (sc := defScope s__law_figures_own) (by decide +kernel)) (fun _ _ _ _ _ => (dg_tup rfl (dgs_cons (dg_name rfl sc__law_figures_own.nd rfl (by first | exact Or.inl rfl | exact Or.inr rfl)) (dgs_cons (dg_name rfl sc__law_figures_own.nd rfl (by first | exact Or.inl rfl | exact Or.inr rfl)) dgs_nil)))) (go_tup (K := (cxT P w K Ts mg base N__law_figures_own "_law_figures_own" (defScope s__law_figures_own) f cdv A outer s H E B G0 Ξ lk).K) (n := 2) (gos_cons (go_name (i := 2) (by decide)) (gos_cons (go_name (i := 3) (by decide)) gos_nil))) (fun _ _ _ _ _ => pts_nil) wt_yes (fun _ _ _ _ _ => (de_lc (own := [("at", 1)]) (by rfl) sc__law_figures_own.nd (by decide) (di_rng1 rfl G.b_range (da_cons (dv 2) da_nil)) (blkOk_by (by rfl)) (fun _ _ _ _ _ => (dg_name rfl sc__law_figures_own.nd rfl (by first | exact Or.inl rfl | exact Or.inr rfl))) (go_name (i := 1) (by decide)) (fun _ _ _ _ _ => pts_nil) wt_yes (fun _ _ _ _ _ => (de_callT db_int G.b_int (by decide +kernel) (da_cons (de_mul (dv 1) (dv 3)) da_nil))))))))⟩

/-! _law_figures -/
abbrev s__law_figures : Stmt := top 32
abbrev N__law_figures : List Str := ["bases", "number", "base", "weight"]
theorem sc__law_figures : FnScope N__law_figures ["bases", "number"] (defScope s__law_figures) := ⟨rfl, rfl, rfl, by decide +kernel, rfl, by decide +kernel, by decide +kernel⟩
def w__law_figures (cl : Nat → Addr) (Ξ : Xp) : Ws := (wRet (wCB dTuple (wCons (wLc [2, 3] (wZipX (wCons (wVar 0) (wCons (wCall 1 (F__law_weights cl) noX (wCons (wVar 0) wNil)) wNil))) (wgTup 2 (wgCons (wName 2) (wgCons (wName 3) wgNil))) wYes (wBin (dI CPos fun i j => .int (i % j)) (wCB dInt (wCons (wBin (dI CDivW fun i j => .int (i / j)) (wVar 1) (wVar 3)) wNil)) (wVar 2))) wNil)))
def F__law_figures (cl : Nat → Addr) : Fd := mkF (pin [0, 1]) 4 (w__law_figures cl)
theorem cal__law_figures {P : Program} {w : World} {K : PySem.W.Frag} {Ts : List (Addr × Str)} {mg : Str → Option Value} {base : Heap} {cl : Nat → Addr} {fI : Addr} (G : Gx K mg cl fI) (EX : Exx P w K mg base fI) (D : Dfn K mg "_law_figures" s__law_figures none) (C__law_weights : Cal P w K Ts mg base 1 "_law_weights" ["bases"] (F__law_weights cl)) : CalS P w K Ts mg base 2 "_law_figures" s__law_figures ["bases", "number"] (F__law_figures cl) :=
  cal_of D sc__law_figures fun f cdv hcd A outer s H E B G0 Ξ lk hr hgd => ⟨_, (dss_one (ds_ret (de_callT db_tuple G.b_tuple (by decide +kernel) (da_cons (de_lc (own := [("base", 2), ("weight", 3)]) (by rfl) sc__law_figures.nd (by decide) (di_zipX G.b_zip (da_cons (dv 0) (da_cons (by exact de_calN (KF := K) (Ts := Ts) C__law_weights (hr.mono (by decide : 1 ≤ 1)) hgd (by exact (da_cons (dv 0) da_nil))) da_nil))) (blkOk_by (N := N__law_figures) (sc := defScope s__law_figures) (by decide +kernel)) (fun _ _ _ _ _ => (dg_tup rfl (dgs_cons (dg_name rfl sc__law_figures.nd rfl (by first | exact Or.inl rfl | exact Or.inr rfl)) (dgs_cons (dg_name rfl sc__law_figures.nd rfl (by first | exact Or.inl rfl | exact Or.inr rfl)) dgs_nil)))) (go_tup (K := (cxT P w K Ts mg base N__law_figures "_law_figures" (defScope s__law_figures) f cdv A outer s H E B G0 Ξ lk).K) (n := 2) (gos_cons (go_name (i := 2) (by decide)) (gos_cons (go_name (i := 3) (by decide)) gos_nil))) (fun _ _ _ _ _ => pts_nil) wt_yes (fun _ _ _ _ _ => (de_mod (de_callT db_int G.b_int (by decide +kernel) (da_cons (de_fdiv (dv 1) (dv 3)) da_nil)) (dv 2)))) da_nil))))⟩

/-! _law_aheads -/
abbrev s__law_aheads : Stmt := top 27
abbrev N__law_aheads : List Str := ["device", "row", "found", "total", "lengths", "lane"]
theorem sc__law_aheads : FnScope N__law_aheads ["device", "row"] (defScope s__law_aheads) := ⟨rfl, rfl, rfl, by decide +kernel, rfl, by decide +kernel, by decide +kernel⟩
def w__law_aheads (cl : Nat → Addr) (Ξ : Xp) : Ws := (wSeq (wPuts [2, 3] (wConsH (wLst wNil) (wConsH (wC (.int 0)) wNil)))
  (wSeq (wFor (wZipX (wCons (wVar 0) (wCons (wVar 1) wNil))) (wgTup 2 (wgCons (wName 4) (wgCons (wName 5) wgNil))) (wSeq (wDrop (wAppend 2 (wCons (wCB dInt (wCons (wVar 3) wNil)) wNil)))
  (wSetF 3 (wBin dAdd (wVar 3) (wBin dIx (wVar 4) (wVar 5))))))
  (wRet (wVar 2))))
def F__law_aheads (cl : Nat → Addr) : Fd := mkF (pin [0, 1]) 6 (w__law_aheads cl)
theorem cal__law_aheads {P : Program} {w : World} {K : PySem.W.Frag} {Ts : List (Addr × Str)} {mg : Str → Option Value} {base : Heap} {cl : Nat → Addr} {fI : Addr} (G : Gx K mg cl fI) (EX : Exx P w K mg base fI) (D : Dfn K mg "_law_aheads" s__law_aheads none)  : CalS P w K Ts mg base 1 "_law_aheads" s__law_aheads ["device", "row"] (F__law_aheads cl) :=
  cal_of D sc__law_aheads fun f cdv hcd A outer s H E B G0 Ξ lk hr hgd => ⟨_, (dss_cons (ds_puts2 rfl rfl sc__law_aheads.nd rfl rfl (by decide) rfl rfl (dah_cons (de_lst da_nil) (dah_cons de_int dah_nil)) (by rfl))
      (dss_cons (ds_for PassesOwn.leaving rfl (di_zipX G.b_zip (da_cons (dv 0) (da_cons (dv 1) da_nil))) (dg_tup rfl (dgs_cons (dg_name rfl sc__law_aheads.nd rfl (by first | exact Or.inl rfl | exact Or.inr rfl)) (dgs_cons (dg_name rfl sc__law_aheads.nd rfl (by first | exact Or.inl rfl | exact Or.inr rfl)) dgs_nil))) (dss_cons (ds_expr (de_append (dv 2) (da_cons (de_callT db_int G.b_int (by decide +kernel) (da_cons (dv 3) da_nil)) da_nil)))
      (dss_one (ds_setF rfl sc__law_aheads.nd rfl (by first | exact Or.inl rfl | exact Or.inr rfl) (de_add (dv 3) (de_ix (dv 4) (dv 5)))))))
      (dss_one (ds_ret (dv 2)))))⟩

/-! _law_can_be -/
abbrev s__law_can_be : Stmt := top 28
abbrev N__law_can_be : List Str := ["service", "size", "pair", "gap", "x", "y", "d", "word", "n"]
theorem sc__law_can_be : FnScope N__law_can_be ["service", "size", "pair"] (defScope s__law_can_be) := ⟨rfl, rfl, rfl, by decide +kernel, rfl, by decide +kernel, by decide +kernel⟩
def w__law_can_be (cl : Nat → Addr) (Ξ : Xp) : Ws := (wSeq (wUnp (wVar 2) (wgTup 3 (wgCons (wName 4) (wgCons (wName 5) (wgCons (wName 6) wgNil)))))
  (wSeq (wUnp (wVar 0) (wgTup 2 (wgCons (wName 7) (wgCons (wName 8) wgNil))))
  (wSeq (wIfS (wOr (wB (wBin (dI0 fun i j => .bl (decide (j < i))) (wCB dMax2 (wCons (wVar 4) (wCons (wVar 5) wNil))) (wVar 1))) (wAnd (wB (wBin dEq (wVar 8) (wC (.int 1)))) (wB (wBin dEq (wVar 6) (wC (.int 0)))))) (wRet (wC (.bl false))) wNext)
  (wSeq (wSetF 3 (wBin (dI0 fun i j => .int (i - j)) (wBin dAdd (wVar 6) (wVar 5)) (wVar 4)))
  (wSeq (wIfS (wB (wBin dEq (wVar 7) (wC (.str "any")))) (wRet (wBin dNeX (wVar 3) (wC (.int 0)))) wNext)
  (wSeq (wIfS (wB (wBin dEq (wVar 7) (wC (.str "order")))) (wRet (wBin (dI0 fun i j => .bl (decide (j ≤ i))) (wVar 3) (wC (.int 1)))) wNext)
  (wRet (wIf (wB (wBin dEq (wVar 8) (wC (.int 1)))) (wAndV (wBin dEq (wVar 4) (wC (.int 0))) (wBin dEq (wVar 5) (wC (.int 0)))) (wChain (dI0 fun i j => .bl (decide (i ≤ j))) (dI0 fun i j => .bl (decide (i ≤ j))) (wC (.int 1)) (wVar 3) (wBin (dI0 fun i j => .int (i - j)) (wBin dAdd (wBin (dI CMulX fun i j => .int (i * j)) (wVar 8) (wVar 6)) (wVar 8)) (wC (.int 1))))))))))))
def F__law_can_be (cl : Nat → Addr) : Fd := mkF (pin [0, 1, 2]) 9 (w__law_can_be cl)
theorem cal__law_can_be {P : Program} {w : World} {K : PySem.W.Frag} {Ts : List (Addr × Str)} {mg : Str → Option Value} {base : Heap} {cl : Nat → Addr} {fI : Addr} (G : Gx K mg cl fI) (EX : Exx P w K mg base fI) (D : Dfn K mg "_law_can_be" s__law_can_be none)  : CalS P w K Ts mg base 1 "_law_can_be" s__law_can_be ["service", "size", "pair"] (F__law_can_be cl) :=
  cal_of D sc__law_can_be fun f cdv hcd A outer s H E B G0 Ξ lk hr hgd => ⟨_, (dss_cons (ds_unp (dv 2) (dg_tup rfl (dgs_cons (dg_name rfl sc__law_can_be.nd rfl (by first | exact Or.inl rfl | exact Or.inr rfl)) (dgs_cons (dg_name rfl sc__law_can_be.nd rfl (by first | exact Or.inl rfl | exact Or.inr rfl)) (dgs_cons (dg_name rfl sc__law_can_be.nd rfl (by first | exact Or.inl rfl | exact Or.inr rfl)) dgs_nil)))))
      (dss_cons (ds_unp (dv 0) (dg_tup rfl (dgs_cons (dg_name rfl sc__law_can_be.nd rfl (by first | exact Or.inl rfl | exact Or.inr rfl)) (dgs_cons (dg_name rfl sc__law_can_be.nd rfl (by first | exact Or.inl rfl | exact Or.inr rfl)) dgs_nil))))
      (dss_cons (ds_if (DW.dt (dw_or (dt_cmp dc_gt (de_callB (db_max2 rfl) G.b_max (by decide +kernel) (da_cons (dv 4) (da_cons (dv 5) da_nil))) (dv 1)) (dw_or1 (DW.dt (dw_and (dt_cmp (dc_eq hr.units) (dv 8) de_int) (dw_and1 (dt_cmp (dc_eq hr.units) (dv 6) de_int))))))) (dss_one (ds_ret de_bl)) dss_nil)
      (dss_cons (ds_setF rfl sc__law_can_be.nd rfl (by first | exact Or.inl rfl | exact Or.inr rfl) (de_sub (de_add (dv 6) (dv 5)) (dv 4)))
      (dss_cons (ds_if (dt_cmp (dc_eq hr.units) (dv 7) de_str) (dss_one (ds_ret (de_cmp (dc_neX hr.units) (dv 3) de_int))) dss_nil)
      (dss_cons (ds_if (dt_cmp (dc_eq hr.units) (dv 7) de_str) (dss_one (ds_ret (de_cmp dc_ge (dv 3) de_int))) dss_nil)
      (dss_one (ds_ret (de_if (dt_cmp (dc_eq hr.units) (dv 8) de_int) (de_and (de_cmp (dc_eq hr.units) (dv 4) de_int) (de_one (de_cmp (dc_eq hr.units) (dv 5) de_int))) (de_chain dc_le dc_le de_int (dv 3) (de_sub (de_add (de_mul (dv 8) (dv 6)) (dv 8)) de_int)))))))))))⟩

/-! _law_clash_pairs -/
abbrev s__law_clash_pairs : Stmt := top 29
abbrev N__law_clash_pairs : List Str := ["device", "rule", "service", "x", "aheads", "found", "y", "stage", "row", "d", "can_be"]
theorem sc__law_clash_pairs : FnScope N__law_clash_pairs ["device", "rule", "service"] (defScope s__law_clash_pairs) := ⟨rfl, rfl, rfl, by decide +kernel, rfl, by decide +kernel, by decide +kernel⟩
def w__law_clash_pairs (cl : Nat → Addr) (Ξ : Xp) : Ws := (wSeq (wPuts [4, 5] (wConsH (wLc [8] (wSeqI (wVar 1)) (wName 8) wYes (wCall 2 (F__law_aheads cl) noX (wCons (wVar 0) (wCons (wVar 8) wNil)))) (wConsH (wLst wNil) wNil)))
  (wSeq (wFor (wRng1 (wCons (wCB dLen (wCons (wVar 1) wNil)) wNil)) (wName 3) (wFor (wRng1 (wCons (wCB dLen (wCons (wVar 1) wNil)) wNil)) (wName 6) (wFor (wRng1 (wCons (wCB dLen (wCons (wVar 0) wNil)) wNil)) (wName 7) (wSeq (wSetF 9 (wBin (dI0 fun i j => .int (i - j)) (wBin dIx (wBin dIx (wVar 4) (wVar 3)) (wVar 7)) (wBin dIx (wBin dIx (wVar 4) (wVar 6)) (wVar 7))))
  (wIfS (wAnd (wB (wBin (dI0 fun i j => .bl (decide (j ≤ i))) (wVar 9) (wC (.int 0)))) (wB (wBin dEq (wBin dIx (wBin dIx (wVar 1) (wVar 3)) (wVar 7)) (wBin dIx (wBin dIx (wVar 1) (wVar 6)) (wVar 7))))) (wSeq (wSetF 10 (wCall 3 (F__law_can_be cl) noX (wCons (wVar 2) (wCons (wBin (dI0 fun i j => .int (i - j)) (wCB dLen (wCons (wVar 1) wNil)) (wC (.int 1))) (wCons (wTup (wCons (wVar 3) (wCons (wVar 6) (wCons (wVar 9) wNil)))) wNil)))))
  (wDrop (wExtend 5 (wCons (wIf (wB (wVar 10)) (wLst (wCons (wTup (wCons (wCB dInt (wCons (wVar 3) wNil)) (wCons (wCB dInt (wCons (wVar 6) wNil)) (wCons (wCB dInt (wCons (wVar 9) wNil)) (wCons (wCB dInt (wCons (wVar 7) wNil)) wNil))))) wNil)) (wLst wNil)) wNil)))) wNext)))))
  (wRet (wCB dSorted (wCons (wVar 5) wNil)))))
def F__law_clash_pairs (cl : Nat → Addr) : Fd := mkF (pin [0, 1, 2]) 11 (w__law_clash_pairs cl)
theorem cal__law_clash_pairs {P : Program} {w : World} {K : PySem.W.Frag} {Ts : List (Addr × Str)} {mg : Str → Option Value} {base : Heap} {cl : Nat → Addr} {fI : Addr} (G : Gx K mg cl fI) (EX : Exx P w K mg base fI) (D : Dfn K mg "_law_clash_pairs" s__law_clash_pairs none) (C__law_aheads : Cal P w K Ts mg base 1 "_law_aheads" ["device", "row"] (F__law_aheads cl)) (C__law_can_be : Cal P w K Ts mg base 1 "_law_can_be" ["service", "size", "pair"] (F__law_can_be cl)) : CalS P w K Ts mg base 2 "_law_clash_pairs" s__law_clash_pairs ["device", "rule", "service"] (F__law_clash_pairs cl) :=
  cal_of D sc__law_clash_pairs fun f cdv hcd A outer s H E B G0 Ξ lk hr hgd => ⟨_, (dss_cons (ds_puts2 rfl rfl sc__law_clash_pairs.nd rfl rfl (by decide) rfl rfl (dah_cons (de_lc (own := [("row", 8)]) (by rfl) sc__law_clash_pairs.nd (by decide) (di_seq (dv 1)) (blkOk_by (N := N__law_clash_pairs) (sc := defScope s__law_clash_pairs) (by decide +kernel)) (fun _ _ _ _ _ => (dg_name rfl sc__law_clash_pairs.nd rfl (by first | exact Or.inl rfl | exact Or.inr rfl))) (go_name (i := 8) (by decide)) (fun _ _ _ _ _ => pts_nil) wt_yes (fun _ _ _ _ _ => (by exact de_calN (KF := K) (Ts := Ts) C__law_aheads (hr.mono (by decide : 1 ≤ 1)) hgd (by exact (da_cons (dv 0) (da_cons (dv 8) da_nil)))))) (dah_cons (de_lst da_nil) dah_nil)) (by rfl))
      (dss_cons (ds_for PassesOwn.leaving rfl (di_rng1 rfl G.b_range (da_cons (de_callB db_len G.b_len (by decide +kernel) (da_cons (dv 1) da_nil)) da_nil)) (dg_name rfl sc__law_clash_pairs.nd rfl (by first | exact Or.inl rfl | exact Or.inr rfl)) (dss_one (ds_for PassesOwn.leaving rfl (di_rng1 rfl G.b_range (da_cons (de_callB db_len G.b_len (by decide +kernel) (da_cons (dv 1) da_nil)) da_nil)) (dg_name rfl sc__law_clash_pairs.nd rfl (by first | exact Or.inl rfl | exact Or.inr rfl)) (dss_one (ds_for PassesOwn.leaving rfl (di_rng1 rfl G.b_range (da_cons (de_callB db_len G.b_len (by decide +kernel) (da_cons (dv 0) da_nil)) da_nil)) (dg_name rfl sc__law_clash_pairs.nd rfl (by first | exact Or.inl rfl | exact Or.inr rfl)) (dss_cons (ds_setF rfl sc__law_clash_pairs.nd rfl (by first | exact Or.inl rfl | exact Or.inr rfl) (de_sub (de_ix (de_ix (dv 4) (dv 3)) (dv 7)) (de_ix (de_ix (dv 4) (dv 6)) (dv 7))))
      (dss_one (ds_if (DW.dt (dw_and (dt_cmp dc_ge (dv 9) de_int) (dw_and1 (dt_cmp (dc_eq hr.units) (de_ix (de_ix (dv 1) (dv 3)) (dv 7)) (de_ix (de_ix (dv 1) (dv 6)) (dv 7)))))) (dss_cons (ds_setF rfl sc__law_clash_pairs.nd rfl (by first | exact Or.inl rfl | exact Or.inr rfl) (by exact de_calN (KF := K) (Ts := Ts) C__law_can_be (hr.mono (by decide : 1 ≤ 1)) hgd (by exact (da_cons (dv 2) (da_cons (de_sub (de_callB db_len G.b_len (by decide +kernel) (da_cons (dv 1) da_nil)) de_int) (da_cons (de_tup (da_cons (dv 3) (da_cons (dv 6) (da_cons (dv 9) da_nil)))) da_nil))))))
      (dss_one (ds_expr (de_extend (dv 5) (da_cons (de_if (dt_val (dv 10)) (de_lst (da_cons (de_tup (da_cons (de_callT db_int G.b_int (by decide +kernel) (da_cons (dv 3) da_nil)) (da_cons (de_callT db_int G.b_int (by decide +kernel) (da_cons (dv 6) da_nil)) (da_cons (de_callT db_int G.b_int (by decide +kernel) (da_cons (dv 9) da_nil)) (da_cons (de_callT db_int G.b_int (by decide +kernel) (da_cons (dv 7) da_nil)) da_nil))))) da_nil)) (de_lst da_nil)) da_nil))))) dss_nil))))))))
      (dss_one (ds_ret (de_callB (db_sorted (room66 hr)) G.b_sorted (by decide +kernel) (da_cons (dv 5) da_nil))))))⟩

/-! _law_does_figure_serve -/
abbrev s__law_does_figure_serve : Stmt := top 34
abbrev N__law_does_figure_serve : List Str := ["bases", "service", "word", "n", "base"]
theorem sc__law_does_figure_serve : FnScope N__law_does_figure_serve ["bases", "service"] (defScope s__law_does_figure_serve) := ⟨rfl, rfl, rfl, by decide +kernel, rfl, by decide +kernel, by decide +kernel⟩
def w__law_does_figure_serve (cl : Nat → Addr) (Ξ : Xp) : Ws := (wSeq (wUnp (wVar 1) (wgTup 2 (wgCons (wName 2) (wgCons (wName 3) wgNil))))
  (wSeq (wIfS (wB (wBin dEq (wVar 2) (wC (.str "queue")))) (wRet (wOrV (wBin dEq (wVar 3) (wC (.int 1))) (wCB dAll (wCons (wLc [4] (wSeqI (wSl (wVar 0) wNoPart (wPart (wUn dNeg (wC (.int 1)))))) (wName 4) wYes (wBin (dI0 fun i j => .bl (decide (i ≤ j))) (wVar 3) (wVar 4))) wNil)))) wNext)
  (wRet (wOrV (wBin dEq (wCB dLen (wCons (wVar 0) wNil)) (wC (.int 1))) (wAndV (wBin dEq (wVar 3) (wC (.int 1))) (wBin dEq (wCB dLen (wCons (wVar 0) wNil)) (wC (.int 2))))))))
def F__law_does_figure_serve (cl : Nat → Addr) : Fd := mkF (pin [0, 1]) 5 (w__law_does_figure_serve cl)
theorem cal__law_does_figure_serve {P : Program} {w : World} {K : PySem.W.Frag} {Ts : List (Addr × Str)} {mg : Str → Option Value} {base : Heap} {cl : Nat → Addr} {fI : Addr} (G : Gx K mg cl fI) (EX : Exx P w K mg base fI) (D : Dfn K mg "_law_does_figure_serve" s__law_does_figure_serve none)  : CalS P w K Ts mg base 1 "_law_does_figure_serve" s__law_does_figure_serve ["bases", "service"] (F__law_does_figure_serve cl) :=
  cal_of D sc__law_does_figure_serve fun f cdv hcd A outer s H E B G0 Ξ lk hr hgd => ⟨_, (dss_cons (ds_unp (dv 1) (dg_tup rfl (dgs_cons (dg_name rfl sc__law_does_figure_serve.nd rfl (by first | exact Or.inl rfl | exact Or.inr rfl)) (dgs_cons (dg_name rfl sc__law_does_figure_serve.nd rfl (by first | exact Or.inl rfl | exact Or.inr rfl)) dgs_nil))))
      (dss_cons (ds_if (dt_cmp (dc_eq hr.units) (dv 2) de_str) (dss_one (ds_ret (de_or (de_cmp (dc_eq hr.units) (dv 3) de_int) (de_one (de_callB (db_all rfl) G.b_all (by decide +kernel) (da_cons (de_lc (own := [("base", 4)]) (by rfl) sc__law_does_figure_serve.nd (by decide) (di_seq (de_sl (dv 0) do_none (do_some (de_neg de_int)))) (blkOk_by (N := N__law_does_figure_serve) (sc := defScope s__law_does_figure_serve) (by decide +kernel)) (fun _ _ _ _ _ => (dg_name rfl sc__law_does_figure_serve.nd rfl (by first | exact Or.inl rfl | exact Or.inr rfl))) (go_name (i := 4) (by decide)) (fun _ _ _ _ _ => pts_nil) wt_yes (fun _ _ _ _ _ => (de_cmp dc_le (dv 3) (dv 4)))) da_nil)))))) dss_nil)
      (dss_one (ds_ret (de_or (de_cmp (dc_eq hr.units) (de_callB db_len G.b_len (by decide +kernel) (da_cons (dv 0) da_nil)) de_int) (de_one (de_and (de_cmp (dc_eq hr.units) (dv 3) de_int) (de_one (de_cmp (dc_eq hr.units) (de_callB db_len G.b_len (by decide +kernel) (da_cons (dv 0) da_nil)) de_int)))))))))⟩

/-! is_number -/
abbrev s_is_number : Stmt := top 5
abbrev N_is_number : List Str := ["value"]
theorem sc_is_number : FnScope N_is_number ["value"] (defScope s_is_number) := ⟨rfl, rfl, rfl, by decide +kernel, rfl, by decide +kernel, by decide +kernel⟩
def w_is_number (cl : Nat → Addr) (Ξ : Xp) : Ws := (wRet (wAndV (wIsi "int" (wVar 0)) (wNotV (wIsi "bool" (wVar 0)))))
def F_is_number (cl : Nat → Addr) : Fd := mkF (pin [0]) 1 (w_is_number cl)
theorem cal_is_number {P : Program} {w : World} {K : PySem.W.Frag} {Ts : List (Addr × Str)} {mg : Str → Option Value} {base : Heap} {cl : Nat → Addr} {fI : Addr} (G : Gx K mg cl fI) (EX : Exx P w K mg base fI) (D : Dfn K mg "is_number" s_is_number none)  : CalS P w K Ts mg base 1 "is_number" s_is_number ["value"] (F_is_number cl) :=
  cal_of D sc_is_number fun f cdv hcd A outer s H E B G0 Ξ lk hr hgd => ⟨_, (dss_one (ds_ret (de_and (de_isi (by decide +kernel) G.b_isinstance G.b_int (by decide +kernel) (dv 0)) (de_one (de_not (de_isi (by decide +kernel) G.b_isinstance G.b_bool (by decide +kernel) (dv 0)))))))⟩

/-! is_within -/
abbrev s_is_within : Stmt := top 6
abbrev N_is_within : List Str := ["value", "low", "high"]
theorem sc_is_within : FnScope N_is_within ["value", "low", "high"] (defScope s_is_within) := ⟨rfl, rfl, rfl, by decide +kernel, rfl, by decide +kernel, by decide +kernel⟩
def w_is_within (cl : Nat → Addr) (Ξ : Xp) : Ws := (wRet (wAndV (wCall 1 (F_is_number cl) noX (wCons (wVar 0) wNil)) (wChain (dI0 fun i j => .bl (decide (i ≤ j))) (dI0 fun i j => .bl (decide (i ≤ j))) (wVar 1) (wVar 0) (wVar 2))))
def F_is_within (cl : Nat → Addr) : Fd := mkF (pin [0, 1, 2]) 3 (w_is_within cl)
theorem cal_is_within {P : Program} {w : World} {K : PySem.W.Frag} {Ts : List (Addr × Str)} {mg : Str → Option Value} {base : Heap} {cl : Nat → Addr} {fI : Addr} (G : Gx K mg cl fI) (EX : Exx P w K mg base fI) (D : Dfn K mg "is_within" s_is_within none) (C_is_number : Cal P w K Ts mg base 1 "is_number" ["value"] (F_is_number cl)) : CalS P w K Ts mg base 2 "is_within" s_is_within ["value", "low", "high"] (F_is_within cl) :=
  cal_of D sc_is_within fun f cdv hcd A outer s H E B G0 Ξ lk hr hgd => ⟨_, (dss_one (ds_ret (de_and (by exact de_calN (KF := K) (Ts := Ts) C_is_number (hr.mono (by decide : 1 ≤ 1)) hgd (by exact (da_cons (dv 0) da_nil))) (de_one (de_chain dc_le dc_le (dv 1) (dv 0) (dv 2))))))⟩

/-! check_bases -/
abbrev s_check_bases : Stmt := top 18
abbrev N_check_bases : List Str := ["bases", "base"]
theorem sc_check_bases : FnScope N_check_bases ["bases"] (defScope s_check_bases) := ⟨rfl, rfl, rfl, by decide +kernel, rfl, by decide +kernel, by decide +kernel⟩
def w_check_bases (cl : Nat → Addr) (Ξ : Xp) : Ws := (wSeq (wIfS (wOr (wNot (wB (wIsi "tuple" (wVar 0)))) (wNot (wB (wChain (dI0 fun i j => .bl (decide (i ≤ j))) (dI0 fun i j => .bl (decide (i ≤ j))) (wC (.int 1)) (wCB dLen (wCons (wVar 0) wNil)) (wC c_MOST_BASES))))) wNever wNext)
  (wIfS (wNot (wB (wCB dAll (wCons (wLc [1] (wSeqI (wVar 0)) (wName 1) wYes (wCall 3 (F_is_within cl) noX (wCons (wVar 1) (wCons (wC c_LEAST_BASE) (wCons (wC c_GREATEST_BASE) wNil))))) wNil)))) wNever wNext))
def F_check_bases (cl : Nat → Addr) : Fd := mkF (pin [0]) 2 (w_check_bases cl)
theorem cal_check_bases {P : Program} {w : World} {K : PySem.W.Frag} {Ts : List (Addr × Str)} {mg : Str → Option Value} {base : Heap} {cl : Nat → Addr} {fI : Addr} (G : Gx K mg cl fI) (EX : Exx P w K mg base fI) (D : Dfn K mg "check_bases" s_check_bases none) (C_is_within : Cal P w K Ts mg base 2 "is_within" ["value", "low", "high"] (F_is_within cl)) : CalS P w K Ts mg base 3 "check_bases" s_check_bases ["bases"] (F_check_bases cl) :=
  cal_of D sc_check_bases fun f cdv hcd A outer s H E B G0 Ξ lk hr hgd => ⟨_, (dss_cons (ds_if (DW.dt (dw_or (dt_not (dt_val (de_isi (by decide +kernel) G.b_isinstance G.b_tuple (by decide +kernel) (dv 0)))) (dw_or1 (dt_not (dt_chain dc_le dc_le de_int (de_callB db_len G.b_len (by decide +kernel) (da_cons (dv 0) da_nil)) (de_constK G.c_MOST_BASES)))))) (dss_one ds_never) dss_nil)
      (dss_one (ds_if (dt_not (dt_val (de_callB (db_all rfl) G.b_all (by decide +kernel) (da_cons (de_lc (own := [("base", 1)]) (by rfl) sc_check_bases.nd (by decide) (di_seq (dv 0)) (blkOk_by (N := N_check_bases) (sc := defScope s_check_bases) (by decide +kernel)) (fun _ _ _ _ _ => (dg_name rfl sc_check_bases.nd rfl (by first | exact Or.inl rfl | exact Or.inr rfl))) (go_name (i := 1) (by decide)) (fun _ _ _ _ _ => pts_nil) wt_yes (fun _ _ _ _ _ => (by exact de_calN (KF := K) (Ts := Ts) C_is_within (hr.mono (by decide : 2 ≤ 2)) hgd (by exact (da_cons (dv 1) (da_cons (de_constK G.c_LEAST_BASE) (da_cons (de_constK G.c_GREATEST_BASE) da_nil))))))) da_nil)))) (dss_one ds_never) dss_nil)))⟩

/-! is_service -/
abbrev s_is_service : Stmt := top 10
abbrev N_is_service : List Str := ["value", "word", "most"]
theorem sc_is_service : FnScope N_is_service ["value"] (defScope s_is_service) := ⟨rfl, rfl, rfl, by decide +kernel, rfl, by decide +kernel, by decide +kernel⟩
def w_is_service (cl : Nat → Addr) (Ξ : Xp) : Ws := (wSeq (wIfS (wOr (wNot (wB (wIsi "tuple" (wVar 0)))) (wB (wBin dNeX (wCB dLen (wCons (wVar 0) wNil)) (wC (.int 2))))) (wRet (wC (.bl false))) wNext)
  (wSeq (wUnp (wVar 0) (wgTup 2 (wgCons (wName 1) (wgCons (wName 2) wgNil))))
  (wRet (wAndV (wIsi "str" (wVar 1)) (wAndV (wBin (dIn false) (wVar 1) (wC c_WORDS)) (wCall 3 (F_is_within cl) noX (wCons (wVar 2) (wCons (wC (.int 1)) (wCons (wC c_MOST_AT_SLOT) wNil)))))))))
def F_is_service (cl : Nat → Addr) : Fd := mkF (pin [0]) 3 (w_is_service cl)
theorem cal_is_service {P : Program} {w : World} {K : PySem.W.Frag} {Ts : List (Addr × Str)} {mg : Str → Option Value} {base : Heap} {cl : Nat → Addr} {fI : Addr} (G : Gx K mg cl fI) (EX : Exx P w K mg base fI) (D : Dfn K mg "is_service" s_is_service none) (C_is_within : Cal P w K Ts mg base 2 "is_within" ["value", "low", "high"] (F_is_within cl)) : CalS P w K Ts mg base 3 "is_service" s_is_service ["value"] (F_is_service cl) :=
  cal_of D sc_is_service fun f cdv hcd A outer s H E B G0 Ξ lk hr hgd => ⟨_, (dss_cons (ds_if (DW.dt (dw_or (dt_not (dt_val (de_isi (by decide +kernel) G.b_isinstance G.b_tuple (by decide +kernel) (dv 0)))) (dw_or1 (dt_cmp (dc_neX hr.units) (de_callB db_len G.b_len (by decide +kernel) (da_cons (dv 0) da_nil)) de_int)))) (dss_one (ds_ret de_bl)) dss_nil)
      (dss_cons (ds_unp (dv 0) (dg_tup rfl (dgs_cons (dg_name rfl sc_is_service.nd rfl (by first | exact Or.inl rfl | exact Or.inr rfl)) (dgs_cons (dg_name rfl sc_is_service.nd rfl (by first | exact Or.inl rfl | exact Or.inr rfl)) dgs_nil))))
      (dss_one (ds_ret (de_and (de_isi (by decide +kernel) G.b_isinstance G.b_str (by decide +kernel) (dv 1)) (de_and (de_cmp dc_in (dv 1) (de_constK G.c_WORDS)) (de_one (by exact de_calN (KF := K) (Ts := Ts) C_is_within (hr.mono (by decide : 2 ≤ 2)) hgd (by exact (da_cons (dv 2) (da_cons de_int (da_cons (de_constK G.c_MOST_AT_SLOT) da_nil))))))))))))⟩

/-! check_service -/
abbrev s_check_service : Stmt := top 11
abbrev N_check_service : List Str := ["service"]
theorem sc_check_service : FnScope N_check_service ["service"] (defScope s_check_service) := ⟨rfl, rfl, rfl, by decide +kernel, rfl, by decide +kernel, by decide +kernel⟩
def w_check_service (cl : Nat → Addr) (Ξ : Xp) : Ws := (wIfS (wNot (wB (wCall 1 (F_is_service cl) noX (wCons (wVar 0) wNil)))) wNever wNext)
def F_check_service (cl : Nat → Addr) : Fd := mkF (pin [0]) 1 (w_check_service cl)
theorem cal_check_service {P : Program} {w : World} {K : PySem.W.Frag} {Ts : List (Addr × Str)} {mg : Str → Option Value} {base : Heap} {cl : Nat → Addr} {fI : Addr} (G : Gx K mg cl fI) (EX : Exx P w K mg base fI) (D : Dfn K mg "check_service" s_check_service none) (C_is_service : Cal P w K Ts mg base 3 "is_service" ["value"] (F_is_service cl)) : CalS P w K Ts mg base 4 "check_service" s_check_service ["service"] (F_check_service cl) :=
  cal_of D sc_check_service fun f cdv hcd A outer s H E B G0 Ξ lk hr hgd => ⟨_, (dss_one (ds_if (dt_not (dt_val (by exact de_calN (KF := K) (Ts := Ts) C_is_service (hr.mono (by decide : 3 ≤ 3)) hgd (by exact (da_cons (dv 0) da_nil))))) (dss_one ds_never) dss_nil))⟩

/-! weights_of -/
abbrev s_weights_of : Stmt := top 19
abbrev N_weights_of : List Str := ["bases", "weights", "base"]
theorem sc_weights_of : FnScope N_weights_of ["bases"] (defScope s_weights_of) := ⟨rfl, rfl, rfl, by decide +kernel, rfl, by decide +kernel, by decide +kernel⟩
def w_weights_of (cl : Nat → Addr) (Ξ : Xp) : Ws := (wSeq (wSet 1 (wLst (wCons (wC (.int 1)) wNil)))
  (wSeq (wFor (wSeqI (wVar 0)) (wName 2) (wDrop (wAppend 1 (wCons (wBin (dI CMulX fun i j => .int (i * j)) (wBin dIx (wVar 1) (wUn dNeg (wC (.int 1)))) (wVar 2)) wNil))))
  (wRet (wVar 1))))
def F_weights_of (cl : Nat → Addr) : Fd := mkF (pin [0]) 3 (w_weights_of cl)
theorem cal_weights_of {P : Program} {w : World} {K : PySem.W.Frag} {Ts : List (Addr × Str)} {mg : Str → Option Value} {base : Heap} {cl : Nat → Addr} {fI : Addr} (G : Gx K mg cl fI) (EX : Exx P w K mg base fI) (D : Dfn K mg "weights_of" s_weights_of none)  : CalS P w K Ts mg base 1 "weights_of" s_weights_of ["bases"] (F_weights_of cl) :=
  cal_of D sc_weights_of fun f cdv hcd A outer s H E B G0 Ξ lk hr hgd => ⟨_, (dss_cons (ds_set rfl sc_weights_of.nd rfl (by first | exact Or.inl rfl | exact Or.inr rfl) (de_lst (da_cons de_int da_nil)))
      (dss_cons (ds_for PassesOwn.leaving rfl (di_seq (dv 0)) (dg_name rfl sc_weights_of.nd rfl (by first | exact Or.inl rfl | exact Or.inr rfl)) (dss_one (ds_expr (de_append (dv 1) (da_cons (de_mul (de_ix (dv 1) (de_neg de_int)) (dv 2)) da_nil)))))
      (dss_one (ds_ret (dv 1)))))⟩

/-! is_possible -/
abbrev s_is_possible : Stmt := top 13
abbrev N_is_possible : List Str := ["service", "pair", "word", "most", "ahead", "behind", "later"]
theorem sc_is_possible : FnScope N_is_possible ["service", "pair"] (defScope s_is_possible) := ⟨rfl, rfl, rfl, by decide +kernel, rfl, by decide +kernel, by decide +kernel⟩
def w_is_possible (cl : Nat → Addr) (Ξ : Xp) : Ws := (wSeq (wUnp (wVar 0) (wgTup 2 (wgCons (wName 2) (wgCons (wName 3) wgNil))))
  (wSeq (wUnp (wVar 1) (wgTup 3 (wgCons (wName 4) (wgCons (wName 5) (wgCons (wName 6) wgNil)))))
  (wSeq (wIfS (wB (wBin dEq (wVar 2) (wC (.str "any")))) (wRet (wAndV (wBin dNeX (wVar 4) (wBin dAdd (wVar 6) (wVar 5))) (wOrV (wBin (dI0 fun i j => .bl (decide (j < i))) (wVar 6) (wC (.int 0))) (wBin (dI0 fun i j => .bl (decide (j < i))) (wVar 3) (wC (.int 1)))))) wNext)
  (wSeq (wIfS (wB (wBin (dI0 fun i j => .bl (decide (j ≤ i))) (wVar 4) (wBin dAdd (wVar 6) (wVar 5)))) (wRet (wC (.bl false))) wNext)
  (wSeq (wIfS (wB (wBin dEq (wVar 2) (wC (.str "order")))) (wRet (wOrV (wBin (dI0 fun i j => .bl (decide (j < i))) (wVar 6) (wC (.int 0))) (wBin (dI0 fun i j => .bl (decide (j < i))) (wVar 3) (wC (.int 1))))) wNext)
  (wRet (wAndV (wBin (dI0 fun i j => .bl (decide (i ≤ j))) (wBin (dI0 fun i j => .int (i - j)) (wVar 5) (wVar 4)) (wBin (dI CMulX fun i j => .int (i * j)) (wBin dAdd (wVar 6) (wC (.int 1))) (wBin (dI0 fun i j => .int (i - j)) (wVar 3) (wC (.int 1))))) (wOrV (wBin (dI0 fun i j => .bl (decide (j < i))) (wVar 3) (wC (.int 1))) (wBin dEq (wVar 4) (wC (.int 0)))))))))))
def F_is_possible (cl : Nat → Addr) : Fd := mkF (pin [0, 1]) 7 (w_is_possible cl)
theorem cal_is_possible {P : Program} {w : World} {K : PySem.W.Frag} {Ts : List (Addr × Str)} {mg : Str → Option Value} {base : Heap} {cl : Nat → Addr} {fI : Addr} (G : Gx K mg cl fI) (EX : Exx P w K mg base fI) (D : Dfn K mg "is_possible" s_is_possible none)  : CalS P w K Ts mg base 1 "is_possible" s_is_possible ["service", "pair"] (F_is_possible cl) :=
  cal_of D sc_is_possible fun f cdv hcd A outer s H E B G0 Ξ lk hr hgd => ⟨_, (dss_cons (ds_unp (dv 0) (dg_tup rfl (dgs_cons (dg_name rfl sc_is_possible.nd rfl (by first | exact Or.inl rfl | exact Or.inr rfl)) (dgs_cons (dg_name rfl sc_is_possible.nd rfl (by first | exact Or.inl rfl | exact Or.inr rfl)) dgs_nil))))
      (dss_cons (ds_unp (dv 1) (dg_tup rfl (dgs_cons (dg_name rfl sc_is_possible.nd rfl (by first | exact Or.inl rfl | exact Or.inr rfl)) (dgs_cons (dg_name rfl sc_is_possible.nd rfl (by first | exact Or.inl rfl | exact Or.inr rfl)) (dgs_cons (dg_name rfl sc_is_possible.nd rfl (by first | exact Or.inl rfl | exact Or.inr rfl)) dgs_nil)))))
      (dss_cons (ds_if (dt_cmp (dc_eq hr.units) (dv 2) de_str) (dss_one (ds_ret (de_and (de_cmp (dc_neX hr.units) (dv 4) (de_add (dv 6) (dv 5))) (de_one (de_or (de_cmp dc_gt (dv 6) de_int) (de_one (de_cmp dc_gt (dv 3) de_int))))))) dss_nil)
      (dss_cons (ds_if (dt_cmp dc_ge (dv 4) (de_add (dv 6) (dv 5))) (dss_one (ds_ret de_bl)) dss_nil)
      (dss_cons (ds_if (dt_cmp (dc_eq hr.units) (dv 2) de_str) (dss_one (ds_ret (de_or (de_cmp dc_gt (dv 6) de_int) (de_one (de_cmp dc_gt (dv 3) de_int))))) dss_nil)
      (dss_one (ds_ret (de_and (de_cmp dc_le (de_sub (dv 5) (dv 4)) (de_mul (de_add (dv 6) de_int) (de_sub (dv 3) de_int))) (de_one (de_or (de_cmp dc_gt (dv 3) de_int) (de_one (de_cmp (dc_eq hr.units) (dv 4) de_int))))))))))))⟩

/-! figures_clash -/
abbrev s_figures_clash : Stmt := top 21
abbrev N_figures_clash : List Str := ["bases", "service", "weights", "stage", "weight", "pair"]
theorem sc_figures_clash : FnScope N_figures_clash ["bases", "service"] (defScope s_figures_clash) := ⟨rfl, rfl, rfl, by decide +kernel, rfl, by decide +kernel, by decide +kernel⟩
def w_figures_clash (cl : Nat → Addr) (Ξ : Xp) : Ws := (wSeq (wDrop (wCall 1 (F_check_bases cl) noX (wCons (wVar 0) wNil)))
  (wSeq (wDrop (wCall 1 (F_check_service cl) noX (wCons (wVar 1) wNil)))
  (wSeq (wSetF 2 (wCall 1 (F_weights_of cl) noX (wCons (wVar 0) wNil)))
  (wSeq (wFor (wEnumX (wCons (wSl (wVar 2) wNoPart (wPart (wUn dNeg (wC (.int 2))))) wNil)) (wgTup 2 (wgCons (wName 3) (wgCons (wName 4) wgNil))) (wSeq (wSetF 5 (wTup (wCons (wBin (dI0 fun i j => .int (i - j)) (wVar 4) (wC (.int 1))) (wCons (wBin dIx (wVar 2) (wBin dAdd (wVar 3) (wC (.int 1)))) (wCons (wBin (dI0 fun i j => .int (i - j)) (wVar 4) (wC (.int 1))) wNil)))))
  (wIfS (wB (wCall 2 (F_is_possible cl) noX (wCons (wVar 1) (wCons (wVar 5) wNil)))) (wRet (wBin dAdd (wVar 5) (wTup (wCons (wVar 3) wNil)))) wNext)))
  (wRet (wC .non))))))
def F_figures_clash (cl : Nat → Addr) : Fd := mkF (pin [0, 1]) 6 (w_figures_clash cl)
theorem cal_figures_clash {P : Program} {w : World} {K : PySem.W.Frag} {Ts : List (Addr × Str)} {mg : Str → Option Value} {base : Heap} {cl : Nat → Addr} {fI : Addr} (G : Gx K mg cl fI) (EX : Exx P w K mg base fI) (D : Dfn K mg "figures_clash" s_figures_clash none) (C_check_bases : Cal P w K Ts mg base 3 "check_bases" ["bases"] (F_check_bases cl)) (C_check_service : Cal P w K Ts mg base 4 "check_service" ["service"] (F_check_service cl)) (C_is_possible : Cal P w K Ts mg base 1 "is_possible" ["service", "pair"] (F_is_possible cl)) (C_weights_of : Cal P w K Ts mg base 1 "weights_of" ["bases"] (F_weights_of cl)) : CalS P w K Ts mg base 5 "figures_clash" s_figures_clash ["bases", "service"] (F_figures_clash cl) :=
  cal_of D sc_figures_clash fun f cdv hcd A outer s H E B G0 Ξ lk hr hgd => ⟨_, (dss_cons (ds_expr (by exact de_calN (KF := K) (Ts := Ts) C_check_bases (hr.mono (by decide : 3 ≤ 4)) hgd (by exact (da_cons (dv 0) da_nil))))
      (dss_cons (ds_expr (by exact de_calN (KF := K) (Ts := Ts) C_check_service (hr.mono (by decide : 4 ≤ 4)) hgd (by exact (da_cons (dv 1) da_nil))))
      (dss_cons (ds_setF rfl sc_figures_clash.nd rfl (by first | exact Or.inl rfl | exact Or.inr rfl) (by exact de_calN (KF := K) (Ts := Ts) C_weights_of (hr.mono (by decide : 1 ≤ 4)) hgd (by exact (da_cons (dv 0) da_nil))))
      (dss_cons (ds_for PassesOwn.leaving rfl (di_enumX G.b_enumerate (da_cons (de_sl (dv 2) do_none (do_some (de_neg de_int))) da_nil)) (dg_tup rfl (dgs_cons (dg_name rfl sc_figures_clash.nd rfl (by first | exact Or.inl rfl | exact Or.inr rfl)) (dgs_cons (dg_name rfl sc_figures_clash.nd rfl (by first | exact Or.inl rfl | exact Or.inr rfl)) dgs_nil))) (dss_cons (ds_setF rfl sc_figures_clash.nd rfl (by first | exact Or.inl rfl | exact Or.inr rfl) (de_tup (da_cons (de_sub (dv 4) de_int) (da_cons (de_ix (dv 2) (de_add (dv 3) de_int)) (da_cons (de_sub (dv 4) de_int) da_nil)))))
      (dss_one (ds_if (dt_val (by exact de_calN (KF := K) (Ts := Ts) C_is_possible (hr.mono (by decide : 1 ≤ 4)) hgd (by exact (da_cons (dv 1) (da_cons (dv 5) da_nil))))) (dss_one (ds_ret (de_add (dv 5) (de_tup (da_cons (dv 3) da_nil))))) dss_nil))))
      (dss_one (ds_ret de_non))))))⟩

/-! figures_serve -/
abbrev s_figures_serve : Stmt := top 20
abbrev N_figures_serve : List Str := ["bases", "service"]
theorem sc_figures_serve : FnScope N_figures_serve ["bases", "service"] (defScope s_figures_serve) := ⟨rfl, rfl, rfl, by decide +kernel, rfl, by decide +kernel, by decide +kernel⟩
def w_figures_serve (cl : Nat → Addr) (Ξ : Xp) : Ws := (wRet (wBin dIsN (wCall 2 (F_figures_clash cl) noX (wCons (wVar 0) (wCons (wVar 1) wNil))) (wC .non)))
def F_figures_serve (cl : Nat → Addr) : Fd := mkF (pin [0, 1]) 2 (w_figures_serve cl)
theorem cal_figures_serve {P : Program} {w : World} {K : PySem.W.Frag} {Ts : List (Addr × Str)} {mg : Str → Option Value} {base : Heap} {cl : Nat → Addr} {fI : Addr} (G : Gx K mg cl fI) (EX : Exx P w K mg base fI) (D : Dfn K mg "figures_serve" s_figures_serve none) (C_figures_clash : Cal P w K Ts mg base 5 "figures_clash" ["bases", "service"] (F_figures_clash cl)) : CalS P w K Ts mg base 6 "figures_serve" s_figures_serve ["bases", "service"] (F_figures_serve cl) :=
  cal_of D sc_figures_serve fun f cdv hcd A outer s H E B G0 Ξ lk hr hgd => ⟨_, (dss_one (ds_ret (de_cmp dc_isN (by exact de_calN (KF := K) (Ts := Ts) C_figures_clash (hr.mono (by decide : 5 ≤ 5)) hgd (by exact (da_cons (dv 0) (da_cons (dv 1) da_nil)))) de_non)))⟩

/-! _law_right -/
abbrev s__law_right : Stmt := top 35
abbrev N__law_right : List Str := ["pot", "services", "word", "lap", "bases", "rule", "pairs", "service", "own", "reach", "due", "number", "n", "x", "y", "d", "stage", "one", "pair"]
theorem sc__law_right : FnScope N__law_right ["pot"] (defScope s__law_right) := ⟨rfl, rfl, rfl, by decide +kernel, rfl, by decide +kernel, by decide +kernel⟩
def w__law_right (cl : Nat → Addr) (Ξ : Xp) : Ws := (wSeq (wSet 1 (wLst wNil))
  (wSeq (wFor (wSeqI (wTup (wCons (wC (.str "queue")) (wCons (wC (.str "order")) (wCons (wC (.str "any")) wNil))))) (wName 2) (wDrop (wExtend 1 (wCons (wLc [12] (wSeqI (wTup (wCons (wC (.int 1)) (wCons (wC (.int 2)) (wCons (wC (.int 3)) (wCons (wC (.int 4)) wNil)))))) (wName 12) wYes (wTup (wCons (wVar 2) (wCons (wVar 12) wNil)))) wNil))))
  (wSeq (wFor (wRng1 (wCons (wC (.int 2)) wNil)) (wName 3) (wSeq (wSetF 4 (wCall 3 (F__law_bases cl) noX (wCons (wVar 0) (wCons (wC (.int 4)) (wCons (wC (.int 24)) wNil)))))
  (wSeq (wPuts [8, 9] (wConsH (wCall 1 (F__law_figures_own cl) noX (wCons (wVar 4) wNil)) (wConsH (wBin dIx (wCall 1 (F__law_weights cl) noX (wCons (wVar 4) wNil)) (wUn dNeg (wC (.int 1)))) wNil)))
  (wSeq (wSetF 5 (wLc [11] (wRng1 (wCons (wVar 9) wNil)) (wName 11) wYes (wCall 2 (F__law_figures cl) noX (wCons (wVar 4) (wCons (wVar 11) wNil)))))
  (wSeq (wSetF 6 (wLc [13, 14, 15, 16] (wSeqI (wCall 3 (F__law_clash_pairs cl) noX (wCons (wVar 8) (wCons (wVar 5) (wCons (wTup (wCons (wC (.str "any")) (wCons (wC (.int 4)) wNil))) wNil))))) (wgTup 4 (wgCons (wName 13) (wgCons (wName 14) (wgCons (wName 15) (wgCons (wName 16) wgNil))))) wYes (wTup (wCons (wVar 13) (wCons (wVar 14) (wCons (wVar 15) wNil))))))
  (wFor (wSeqI (wVar 1)) (wName 7) (wSeq (wSetF 10 (wNotV (wCB dAny (wCons (wLc [18] (wSeqI (wVar 6)) (wName 18) wYes (wCall 3 (F__law_can_be cl) noX (wCons (wVar 7) (wCons (wBin (dI0 fun i j => .int (i - j)) (wVar 9) (wC (.int 1))) (wCons (wVar 18) wNil))))) wNil))))
  (wSeq (wIfS (wB (wBin dNeX (wVar 10) (wCall 2 (F__law_does_figure_serve cl) noX (wCons (wVar 4) (wCons (wVar 7) wNil))))) (wRet (wC (.bl false))) wNext)
  (wIfS (wB (wBin dNeX (wCB dReprX (wCons (wCall 2 (F_figures_serve cl) noX (wPick [1, 0] fun ρ Q => (wCons (wVar 7) (wCons (wVar 4) wNil)) ρ fun rs ρ1 => rs.length = 2 ∧ Q rs ρ1)) wNil)) (wCB dReprX (wCons (wVar 10) wNil)))) (wRet (wC (.bl false))) wNext)))))))))
  (wSeq (wFor (wRng1 (wCons (wC (.int 6)) wNil)) (wName 3) (wSeq (wSetF 4 (wCB dTuple (wCons (wLc [17] (wRng1 (wCons (wBin dAdd (wC (.int 1)) (wCall 2 (F__law_take cl) noX (wCons (wVar 0) (wCons (wC (.int 40)) wNil)))) wNil)) (wName 17) wYes (wCB dInt (wCons (wCall 2 (F__law_of cl) noX (wCons (wVar 0) (wCons (wLst (wCons (wC (.int 2)) (wCons (wC (.int 3)) (wCons (wC (.int 4)) (wCons (wC (.int 4)) wNil))))) wNil))) wNil))) wNil)))
  (wSeq (wIfS (wB (wBin dEq (wCall 2 (F__law_take cl) noX (wCons (wVar 0) (wCons (wC (.int 2)) wNil))) (wC (.int 0)))) (wSetF 4 (wBin dAdd (wBin dTm (wTup (wCons (wCB dInt (wCons (wC (.int 3)) wNil)) wNil)) (wBin (dI0 fun i j => .int (i - j)) (wCB dLen (wCons (wVar 4) wNil)) (wC (.int 1)))) (wTup (wCons (wCB dInt (wCons (wCall 2 (F__law_of cl) noX (wCons (wVar 0) (wCons (wLst (wCons (wC (.int 2)) (wCons (wC (.int 3)) (wCons (wC (.int 4)) wNil)))) wNil))) wNil)) wNil)))) wNext)
  (wFor (wSeqI (wVar 1)) (wName 7) (wIfS (wB (wBin dNeX (wCB dReprX (wCons (wCall 2 (F_figures_serve cl) noX (wCons (wVar 4) (wCons (wVar 7) wNil))) wNil)) (wCB dReprX (wCons (wCall 2 (F__law_does_figure_serve cl) noX (wCons (wVar 4) (wCons (wVar 7) wNil))) wNil)))) (wRet (wC (.bl false))) wNext)))))
  (wRet (wC (.bl true)))))))
def F__law_right (cl : Nat → Addr) : Fd := mkF (pin [0]) 19 (w__law_right cl)
theorem cal__law_right {P : Program} {w : World} {K : PySem.W.Frag} {Ts : List (Addr × Str)} {mg : Str → Option Value} {base : Heap} {cl : Nat → Addr} {fI : Addr} (G : Gx K mg cl fI) (EX : Exx P w K mg base fI) (D : Dfn K mg "_law_right" s__law_right none) (C__law_bases : Cal P w K Ts mg base 3 "_law_bases" ["pot", "most", "reach"] (F__law_bases cl)) (C__law_can_be : Cal P w K Ts mg base 1 "_law_can_be" ["service", "size", "pair"] (F__law_can_be cl)) (C__law_clash_pairs : Cal P w K Ts mg base 2 "_law_clash_pairs" ["device", "rule", "service"] (F__law_clash_pairs cl)) (C__law_does_figure_serve : Cal P w K Ts mg base 1 "_law_does_figure_serve" ["bases", "service"] (F__law_does_figure_serve cl)) (C__law_figures : Cal P w K Ts mg base 2 "_law_figures" ["bases", "number"] (F__law_figures cl)) (C__law_figures_own : Cal P w K Ts mg base 2 "_law_figures_own" ["bases"] (F__law_figures_own cl)) (C__law_of : Cal P w K Ts mg base 2 "_law_of" ["pot", "some"] (F__law_of cl)) (C__law_take : Cal P w K Ts mg base 1 "_law_take" ["pot", "upto"] (F__law_take cl)) (C__law_weights : Cal P w K Ts mg base 1 "_law_weights" ["bases"] (F__law_weights cl)) (C_figures_serve : Cal P w K Ts mg base 6 "figures_serve" ["bases", "service"] (F_figures_serve cl)) (C_figures_serve_K10 : CalW P w K Ts mg base 6 "figures_serve" ["bases", "service"] ["service", "bases"] [1, 0] (F_figures_serve cl)) : CalS P w K Ts mg base 7 "_law_right" s__law_right ["pot"] (F__law_right cl) :=
  cal_of D sc__law_right fun f cdv hcd A outer s H E B G0 Ξ lk hr hgd => ⟨_, (dss_cons (ds_set rfl sc__law_right.nd rfl (by first | exact Or.inl rfl | exact Or.inr rfl) (de_lst da_nil))
      (dss_cons (ds_for PassesOwn.leaving rfl (di_seq (de_tup (da_cons de_str (da_cons de_str (da_cons de_str da_nil))))) (dg_name rfl sc__law_right.nd rfl (by first | exact Or.inl rfl | exact Or.inr rfl)) (dss_one (ds_expr (de_extend (dv 1) (da_cons (de_lc (own := [("n", 12)]) (by rfl) sc__law_right.nd (by decide) (di_seq (de_tup (da_cons de_int (da_cons de_int (da_cons de_int (da_cons de_int da_nil)))))) (blkOk_by (N := N__law_right) (sc := defScope s__law_right) (by decide +kernel)) (fun _ _ _ _ _ => (dg_name rfl sc__law_right.nd rfl (by first | exact Or.inl rfl | exact Or.inr rfl))) (go_name (i := 12) (by decide)) (fun _ _ _ _ _ => pts_nil) wt_yes (fun _ _ _ _ _ => (de_tup (da_cons (dv 2) (da_cons (dv 12) da_nil))))) da_nil)))))
      (dss_cons (ds_for PassesOwn.leaving rfl (di_rng1 rfl G.b_range (da_cons de_int da_nil)) (dg_name rfl sc__law_right.nd rfl (by first | exact Or.inl rfl | exact Or.inr rfl)) (dss_cons (ds_setF rfl sc__law_right.nd rfl (by first | exact Or.inl rfl | exact Or.inr rfl) (by exact de_calN (KF := K) (Ts := Ts) C__law_bases (hr.mono (by decide : 3 ≤ 6)) hgd (by exact (da_cons (dv 0) (da_cons de_int (da_cons de_int da_nil))))))
      (dss_cons (ds_putsT (is := [8, 9]) rfl (by decide) rfl (pgs_cons (pg_name sc__law_right.nd (i := 8) rfl (by first | exact Or.inl rfl | exact Or.inr rfl)) (pgs_cons (pg_name sc__law_right.nd (i := 9) rfl (by first | exact Or.inl rfl | exact Or.inr rfl)) pgs_nil)) (dah_cons (by exact de_calN (KF := K) (Ts := Ts) C__law_figures_own (hr.mono (by decide : 2 ≤ 6)) hgd (by exact (da_cons (dv 4) da_nil))) (dah_cons (de_ix (by exact de_calN (KF := K) (Ts := Ts) C__law_weights (hr.mono (by decide : 1 ≤ 6)) hgd (by exact (da_cons (dv 4) da_nil))) (de_neg de_int)) dah_nil)))
      (dss_cons (ds_setLcF (own := [("number", 11)]) rfl (by rfl) sc__law_right.nd rfl rfl (by rfl) (by decide) (di_rng1 rfl G.b_range (da_cons (dv 9) da_nil)) (blkOk_by (N := N__law_right) (sc := defScope s__law_right) (by decide +kernel)) (fun _ _ _ _ _ => (dg_name rfl sc__law_right.nd rfl (by first | exact Or.inl rfl | exact Or.inr rfl))) (go_name (i := 11) (by decide)) (fun _ _ _ _ _ => pts_nil) wt_yes (fun _ _ _ _ _ => (by exact de_calN (KF := K) (Ts := Ts) C__law_figures (hr.mono (by decide : 2 ≤ 6)) hgd (by exact (da_cons (dv 4) (da_cons (dv 11) da_nil))))))
      (dss_cons (ds_setLcF (own := [("x", 13), ("y", 14), ("d", 15), ("stage", 16)]) rfl (by rfl) sc__law_right.nd rfl rfl (by rfl) (by decide) (di_seq (by exact de_calN (KF := K) (Ts := Ts) C__law_clash_pairs (hr.mono (by decide : 2 ≤ 6)) hgd (by exact (da_cons (dv 8) (da_cons (dv 5) (da_cons (de_tup (da_cons de_str (da_cons de_int da_nil))) da_nil)))))) (blkOk_by (N := N__law_right) (sc := defScope s__law_right) (by decide +kernel)) (fun _ _ _ _ _ => (dg_tup rfl (dgs_cons (dg_name rfl sc__law_right.nd rfl (by first | exact Or.inl rfl | exact Or.inr rfl)) (dgs_cons (dg_name rfl sc__law_right.nd rfl (by first | exact Or.inl rfl | exact Or.inr rfl)) (dgs_cons (dg_name rfl sc__law_right.nd rfl (by first | exact Or.inl rfl | exact Or.inr rfl)) (dgs_cons (dg_name rfl sc__law_right.nd rfl (by first | exact Or.inl rfl | exact Or.inr rfl)) dgs_nil)))))) (go_tup (K := (cxT P w K Ts mg base N__law_right "_law_right" (defScope s__law_right) f cdv A outer s H E B G0 Ξ lk).K) (n := 4) (gos_cons (go_name (i := 13) (by decide)) (gos_cons (go_name (i := 14) (by decide)) (gos_cons (go_name (i := 15) (by decide)) (gos_cons (go_name (i := 16) (by decide)) gos_nil))))) (fun _ _ _ _ _ => pts_nil) wt_yes (fun _ _ _ _ _ => (de_tup (da_cons (dv 13) (da_cons (dv 14) (da_cons (dv 15) da_nil))))))
      (dss_one (ds_for PassesOwn.leaving rfl (di_seq (dv 1)) (dg_name rfl sc__law_right.nd rfl (by first | exact Or.inl rfl | exact Or.inr rfl)) (dss_cons (ds_setF rfl sc__law_right.nd rfl (by first | exact Or.inl rfl | exact Or.inr rfl) (de_not (de_callB (db_any rfl) G.b_any (by decide +kernel) (da_cons (de_lc (own := [("pair", 18)]) (by rfl) sc__law_right.nd (by decide) (di_seq (dv 6)) (blkOk_by (N := N__law_right) (sc := defScope s__law_right) (by decide +kernel)) (fun _ _ _ _ _ => (dg_name rfl sc__law_right.nd rfl (by first | exact Or.inl rfl | exact Or.inr rfl))) (go_name (i := 18) (by decide)) (fun _ _ _ _ _ => pts_nil) wt_yes (fun _ _ _ _ _ => (by exact de_calN (KF := K) (Ts := Ts) C__law_can_be (hr.mono (by decide : 1 ≤ 6)) hgd (by exact (da_cons (dv 7) (da_cons (de_sub (dv 9) de_int) (da_cons (dv 18) da_nil))))))) da_nil))))
      (dss_cons (ds_if (dt_cmp (dc_neX hr.units) (dv 10) (by exact de_calN (KF := K) (Ts := Ts) C__law_does_figure_serve (hr.mono (by decide : 1 ≤ 6)) hgd (by exact (da_cons (dv 4) (da_cons (dv 7) da_nil))))) (dss_one (ds_ret de_bl)) dss_nil)
      (dss_one (ds_if (dt_cmp (dc_neX hr.units) (de_callB (db_reprX hgd (room66 hr)) G.b_repr (by decide +kernel) (da_cons (by exact de_calKw (KF := K) (Ts := Ts) (ks := ["service", "bases"]) (pk := [1, 0]) (W := fun _ _ _ _ => False) (Ξ := noX) C_figures_serve_K10 (hr.mono (by decide : 6 ≤ 6)) hgd (by exact (dk_cons (dv 7) (dk_cons (dv 4) dk_nil))) takes0 lk_no (by decide)) da_nil)) (de_callB (db_reprX hgd (room66 hr)) G.b_repr (by decide +kernel) (da_cons (dv 10) da_nil))) (dss_one (ds_ret de_bl)) dss_nil)))))))))))
      (dss_cons (ds_for PassesOwn.leaving rfl (di_rng1 rfl G.b_range (da_cons de_int da_nil)) (dg_name rfl sc__law_right.nd rfl (by first | exact Or.inl rfl | exact Or.inr rfl)) (dss_cons (ds_setF rfl sc__law_right.nd rfl (by first | exact Or.inl rfl | exact Or.inr rfl) (de_callT db_tuple G.b_tuple (by decide +kernel) (da_cons (de_lc (own := [("one", 17)]) (by rfl) sc__law_right.nd (by decide) (di_rng1 rfl G.b_range (da_cons (de_add de_int (by exact de_calN (KF := K) (Ts := Ts) C__law_take (hr.mono (by decide : 1 ≤ 6)) hgd (by exact (da_cons (dv 0) (da_cons de_int da_nil))))) da_nil)) (blkOk_by (N := N__law_right) (sc := defScope s__law_right) (by decide +kernel)) (fun _ _ _ _ _ => (dg_name rfl sc__law_right.nd rfl (by first | exact Or.inl rfl | exact Or.inr rfl))) (go_name (i := 17) (by decide)) (fun _ _ _ _ _ => pts_nil) wt_yes (fun _ _ _ _ _ => (de_callT db_int G.b_int (by decide +kernel) (da_cons (by exact de_calN (KF := K) (Ts := Ts) C__law_of (hr.mono (by decide : 2 ≤ 6)) hgd (by exact (da_cons (dv 0) (da_cons (de_lst (da_cons de_int (da_cons de_int (da_cons de_int (da_cons de_int da_nil))))) da_nil)))) da_nil)))) da_nil)))
      (dss_cons (ds_if (dt_cmp (dc_eq hr.units) (by exact de_calN (KF := K) (Ts := Ts) C__law_take (hr.mono (by decide : 1 ≤ 6)) hgd (by exact (da_cons (dv 0) (da_cons de_int da_nil)))) de_int) (dss_one (ds_setF rfl sc__law_right.nd rfl (by first | exact Or.inl rfl | exact Or.inr rfl) (de_add (de_tm (de_tup (da_cons (de_callT db_int G.b_int (by decide +kernel) (da_cons de_int da_nil)) da_nil)) (de_sub (de_callB db_len G.b_len (by decide +kernel) (da_cons (dv 4) da_nil)) de_int)) (de_tup (da_cons (de_callT db_int G.b_int (by decide +kernel) (da_cons (by exact de_calN (KF := K) (Ts := Ts) C__law_of (hr.mono (by decide : 2 ≤ 6)) hgd (by exact (da_cons (dv 0) (da_cons (de_lst (da_cons de_int (da_cons de_int (da_cons de_int da_nil)))) da_nil)))) da_nil)) da_nil))))) dss_nil)
      (dss_one (ds_for PassesOwn.leaving rfl (di_seq (dv 1)) (dg_name rfl sc__law_right.nd rfl (by first | exact Or.inl rfl | exact Or.inr rfl)) (dss_one (ds_if (dt_cmp (dc_neX hr.units) (de_callB (db_reprX hgd (room66 hr)) G.b_repr (by decide +kernel) (da_cons (by exact de_calN (KF := K) (Ts := Ts) C_figures_serve (hr.mono (by decide : 6 ≤ 6)) hgd (by exact (da_cons (dv 4) (da_cons (dv 7) da_nil)))) da_nil)) (de_callB (db_reprX hgd (room66 hr)) G.b_repr (by decide +kernel) (da_cons (by exact de_calN (KF := K) (Ts := Ts) C__law_does_figure_serve (hr.mono (by decide : 1 ≤ 6)) hgd (by exact (da_cons (dv 4) (da_cons (dv 7) da_nil)))) da_nil))) (dss_one (ds_ret de_bl)) dss_nil)))))))
      (dss_one (ds_ret de_bl))))))⟩

/-! _law_pot -/
abbrev s__law_pot : Stmt := top 23
abbrev N__law_pot : List Str := ["script", "place", "cell", "own", "small"]
theorem sc__law_pot : FnScope N__law_pot ["script", "place"] (defScope s__law_pot) := ⟨rfl, rfl, rfl, by decide +kernel, rfl, by decide +kernel, by decide +kernel⟩
def w__law_pot (cl : Nat → Addr) (Ξ : Xp) : Ws := (wSeq (wSetF 2 (wIf (wB (wBin (dI0 fun i j => .bl (decide (i < j))) (wVar 1) (wCB dLen (wCons (wVar 0) wNil)))) (wBin dIx (wVar 0) (wVar 1)) (wBin dAdd (wBin dAdd (wBin (dI CPos fun i j => .int (i % j)) (wCB dSum (wCons (wSl (wVar 0) wNoPart (wPart (wC (.int 1)))) wNil)) (wC (.int 1000003))) (wBin (dI CMulX fun i j => .int (i * j)) (wC (.int 1124)) (wVar 1))) (wC (.int 517)))))
  (wSeq (wSetF 3 (wBin (dI CMulX fun i j => .int (i * j)) (wBin (dI CPos fun i j => .int (i % j)) (wCB dInt (wCons (wCB dAbs (wCons (wVar 2) wNil)) wNil)) (wBin (dI CPowX fun i j => .int (i ^ j.toNat)) (wBin (dI CPowX fun i j => .int (i ^ j.toNat)) (wC (.int 10)) (wC (.int 60))) (wC (.int 5)))) (wCB dInt (wCons (wBin (dI0 fun i j => .bl (decide (j ≤ i))) (wCB dAbs (wCons (wVar 2) wNil)) (wBin (dI CPowX fun i j => .int (i ^ j.toNat)) (wC (.int 10)) (wC (.int 18)))) wNil))))
  (wSeq (wSetF 4 (wBin (dI CPos fun i j => .int (i % j)) (wCB dInt (wCons (wVar 2) wNil)) (wC (.int 2305843009213693951))))
  (wRet (wLst (wCons (wVar 3) (wCons (wBin (dI CPos fun i j => .int (i % j)) (wCB dInt (wCons (wBin dAdd (wBin dAdd (wBin (dI CMulX fun i j => .int (i * j)) (wVar 4) (wC (.int 73151))) (wBin (dI CMulX fun i j => .int (i * j)) (wBin (dI CMulX fun i j => .int (i * j)) (wC (.int 8097)) (wVar 1)) (wVar 1))) (wC (.int 474))) wNil)) (wC (.int 2305843009213693921))) (wCons (wC (.int 0)) wNil))))))))
def F__law_pot (cl : Nat → Addr) : Fd := mkF (pin [0, 1]) 5 (w__law_pot cl)
theorem cal__law_pot {P : Program} {w : World} {K : PySem.W.Frag} {Ts : List (Addr × Str)} {mg : Str → Option Value} {base : Heap} {cl : Nat → Addr} {fI : Addr} (G : Gx K mg cl fI) (EX : Exx P w K mg base fI) (D : Dfn K mg "_law_pot" s__law_pot none)  : CalS P w K Ts mg base 1 "_law_pot" s__law_pot ["script", "place"] (F__law_pot cl) :=
  cal_of D sc__law_pot fun f cdv hcd A outer s H E B G0 Ξ lk hr hgd => ⟨_, (dss_cons (ds_setF rfl sc__law_pot.nd rfl (by first | exact Or.inl rfl | exact Or.inr rfl) (de_if (dt_cmp dc_lt (dv 1) (de_callB db_len G.b_len (by decide +kernel) (da_cons (dv 0) da_nil))) (de_ix (dv 0) (dv 1)) (de_add (de_add (de_mod (de_callB (db_sum rfl) G.b_sum (by decide +kernel) (da_cons (de_sl (dv 0) do_none (do_some de_int)) da_nil)) de_int) (de_mul de_int (dv 1))) de_int)))
      (dss_cons (ds_setF rfl sc__law_pot.nd rfl (by first | exact Or.inl rfl | exact Or.inr rfl) (de_mul (de_mod (de_callT db_int G.b_int (by decide +kernel) (da_cons (de_callB db_abs G.b_abs (by decide +kernel) (da_cons (dv 2) da_nil)) da_nil)) (de_pow (de_pow de_int de_int) de_int)) (de_callT db_int G.b_int (by decide +kernel) (da_cons (de_cmp dc_ge (de_callB db_abs G.b_abs (by decide +kernel) (da_cons (dv 2) da_nil)) (de_pow de_int de_int)) da_nil))))
      (dss_cons (ds_setF rfl sc__law_pot.nd rfl (by first | exact Or.inl rfl | exact Or.inr rfl) (de_mod (de_callT db_int G.b_int (by decide +kernel) (da_cons (dv 2) da_nil)) de_int))
      (dss_one (ds_ret (de_lst (da_cons (dv 3) (da_cons (de_mod (de_callT db_int G.b_int (by decide +kernel) (da_cons (de_add (de_add (de_mul (dv 4) de_int) (de_mul (de_mul de_int (dv 1)) (dv 1))) de_int) da_nil)) de_int) (da_cons de_int da_nil)))))))))⟩

/-! _law_cells -/
abbrev s__law_cells : Stmt := top 26
abbrev N__law_cells : List Str := ["script", "most"]
theorem sc__law_cells : FnScope N__law_cells ["script", "most"] (defScope s__law_cells) := ⟨rfl, rfl, rfl, by decide +kernel, rfl, by decide +kernel, by decide +kernel⟩
def w__law_cells (cl : Nat → Addr) (Ξ : Xp) : Ws := (wRet (wListRg (wRg1 (wCB dMax2 (wCons (wC (.int 1)) (wCons (wCB dMin2 (wCons (wVar 1) (wCons (wCB dLen (wCons (wVar 0) wNil)) wNil))) wNil))))))
def F__law_cells (cl : Nat → Addr) : Fd := mkF (pin [0, 1]) 2 (w__law_cells cl)
theorem cal__law_cells {P : Program} {w : World} {K : PySem.W.Frag} {Ts : List (Addr × Str)} {mg : Str → Option Value} {base : Heap} {cl : Nat → Addr} {fI : Addr} (G : Gx K mg cl fI) (EX : Exx P w K mg base fI) (D : Dfn K mg "_law_cells" s__law_cells none)  : CalS P w K Ts mg base 1 "_law_cells" s__law_cells ["script", "most"] (F__law_cells cl) :=
  cal_of D sc__law_cells fun f cdv hcd A outer s H E B G0 Ξ lk hr hgd => ⟨_, (dss_one (ds_ret (de_listRg rfl G.b_list (drg_1 G.b_range (de_callB (db_max2 rfl) G.b_max (by decide +kernel) (da_cons de_int (da_cons (de_callB (db_min2 rfl) G.b_min (by decide +kernel) (da_cons (dv 1) (da_cons (de_callB db_len G.b_len (by decide +kernel) (da_cons (dv 0) da_nil)) da_nil))) da_nil)))))))⟩

/-! law -/
abbrev s_law : Stmt := top 36
abbrev N_law : List Str := ["script", "place"]
theorem sc_law : FnScope N_law ["script"] (defScope s_law) := ⟨rfl, rfl, rfl, by decide +kernel, rfl, by decide +kernel, by decide +kernel⟩
def w_law (cl : Nat → Addr) (Ξ : Xp) : Ws := (wRet (wCB dAll (wCons (wLc [1] (wSeqI (wCall 2 (F__law_cells cl) noX (wCons (wVar 0) (wCons (wC (.int 2)) wNil)))) (wName 1) wYes (wCallO (F__law_right cl) noX (wCall 2 (F__law_pot cl) noX (wCons (wVar 0) (wCons (wVar 1) wNil))))) wNil)))
def F_law (cl : Nat → Addr) : Fd := mkF (pin [0]) 2 (w_law cl)
theorem cal_law {P : Program} {w : World} {K : PySem.W.Frag} {Ts : List (Addr × Str)} {mg : Str → Option Value} {base : Heap} {cl : Nat → Addr} {fI : Addr} (G : Gx K mg cl fI) (EX : Exx P w K mg base fI) (D : Dfn K mg "law" s_law none) (C__law_cells : Cal P w K Ts mg base 1 "_law_cells" ["script", "most"] (F__law_cells cl)) (C__law_pot : Cal P w K Ts mg base 1 "_law_pot" ["script", "place"] (F__law_pot cl)) (C__law_right : Cal P w K Ts mg base 7 "_law_right" ["pot"] (F__law_right cl)) : CalS P w K Ts mg base 8 "law" s_law ["script"] (F_law cl) :=
  cal_of D sc_law fun f cdv hcd A outer s H E B G0 Ξ lk hr hgd => ⟨_, (dss_one (ds_ret (de_callB (db_all rfl) G.b_all (by decide +kernel) (da_cons (de_lc (own := [("place", 1)]) (by rfl) sc_law.nd (by decide) (di_seq (by exact de_calN (KF := K) (Ts := Ts) C__law_cells (hr.mono (by decide : 1 ≤ 7)) hgd (by exact (da_cons (dv 0) (da_cons de_int da_nil))))) (blkOk_by (N := N_law) (sc := defScope s_law) (by decide +kernel)) (fun _ _ _ _ _ => (dg_name rfl sc_law.nd rfl (by first | exact Or.inl rfl | exact Or.inr rfl))) (go_name (i := 1) (by decide)) (fun _ _ _ _ _ => pts_nil) wt_yes (fun _ _ _ _ _ => (by exact de_calO (KF := K) (Ts := Ts) C__law_right (hr.mono (by decide : 7 ≤ 7)) hgd (by exact de_calN (KF := K) (Ts := Ts) C__law_pot (hr.mono (by decide : 1 ≤ 7)) hgd (by exact (da_cons (dv 0) (da_cons (dv 1) da_nil))))))) da_nil))))⟩
end Lk

set_option Elab.async false
set_option linter.all false
set_option maxRecDepth 100000
set_option maxHeartbeats 4000000
set_option exponentiation.threshold 3000
namespace Lk
open PySem L2 DL
theorem e_is_number {cl : Nat → Addr} : F_is_number cl = FIsNumber := rfl
theorem e_is_within {cl : Nat → Addr} : F_is_within cl = FIsWithin := rfl
theorem e_check_service {cl : Nat → Addr} : F_check_service cl = FCheckService (fun _ => wNever) := rfl
theorem e_weights_of {cl : Nat → Addr} : F_weights_of cl = FWeights := rfl
theorem e_law_weights {cl : Nat → Addr} : F__law_weights cl = FWeights := rfl
theorem e_is_possible {cl : Nat → Addr} : F_is_possible cl = FIsPossible := rfl
theorem e_take {cl : Nat → Addr} : F__law_take cl = FTake 98301 453 := rfl
theorem e_of {cl : Nat → Addr} : F__law_of cl = FOf 98301 453 := rfl
theorem e_pot {cl : Nat → Addr} : F__law_pot cl = FPot 1124 517 73151 8097 474 := rfl
theorem e_cells {cl : Nat → Addr} : F__law_cells cl = FCells := rfl
theorem ab : AB 98301 453 := by unfold AB; omega
theorem pc : DL.PC 1124 517 73151 8097 474 := by unfold DL.PC; omega
/-- bases -/
abbrev bs (ns : List Int) : PD := .tup (ns.map .int)
theorem check_bases_ok {cl : Nat → Addr} {ns : List Int} {Q : Rz → Sl → Prop} {Ξ : Xp} (hb : Bases ns) (h1 : 1 ≤ ns.length) (h2 : ns.length ≤ 40) (h : Q (.dat .non) [.dat (bs ns)]) : F_check_bases cl [.dat (bs ns)] Q Ξ := by
  unfold F_check_bases mkF
  refine ⟨pinned1, ?_⟩
  have c1 : decide ((1 : Int) ≤ (ns.length : Int)) = true := decide_eq_true (by omega)
  have c2 : decide ((ns.length : Int) ≤ 40) = true := decide_eq_true (by omega)
  simp only [w_check_bases, bs, List.length_map, c1, c2, wSeq, wNext, wIfS, wSetF, wSet, into, wSetIx, wRet, wRetN, wDrop, wB, wBin, wUn, wCB, wCons, wNil, wVar, wC, wIf, wAnd, wOr, DL.wNot, wAndV, wOrV, wNotV, wTup, wLst, wSl, wNoPart, wPart, wChain, wUnp, wgTup, wgCons, wgNil, wName, wIsi, wListRg, wRg1, wRg2, wTupRg, wPuts, puts, Rz.sd, wConsH, wAppend, wExtend, ownL, dI, dI0, dIx, dInt, dAbs, dLen, dMax2, dMin2, dSum, dAll, dAny, dList, dTuple, dAdd, dNeg, dIsN, dNotN, PD.isN, dSl, look, looks, ok, Rz.pd, SD.pd, OD.pd, Rz.cold, Rz.cool, warm, pdsOf, frz, frzAll, leave, argOf, onceB, newBor, isBor, ty_non, ty_bl, ty_int, ty_str, ty_lst, ty_scr, ty_tup, ty_dct, isa, String.reduceBEq, beq_self_eq_true, Bool.false_and, Bool.and_false, Bool.not_true, Bool.or_self, wYes, wCall, backS_0, backS_1, backS_2, backS_3, backS_4, backS_o0, backS_o1, backS_o2, backS_o3, dEq_int, dEq_str, dNeX_int, dNeX_str, List.length_cons, List.length_nil, List.cons_append, List.nil_append, List.replicate, Nat.reduceAdd, Nat.reduceSub, List.getElem?_cons_zero, List.getElem?_cons_succ, Option.bind_some, List.set_cons_zero, List.set_cons_succ, List.map_cons, List.map_nil, List.any_cons, List.any_nil, List.getD_cons_zero, List.getD_cons_succ, true_or, or_true, true_and, and_true, Bool.and_true, Bool.true_and, Bool.or_false, Bool.false_or, Bool.not_false, Bool.not_true, Bool.or_true, Bool.true_or, decide_true, decide_false, wFor, wRng1, wRng2, wLc, wSeqI, items, wEnumX, wCallO, wNever, noOwn, List.all_cons, List.all_nil, wipeS, Bool.and_self, decide_eq_true_eq, atI0a, atI0b, atI0c, atI1b, atI1c, atI2c]
  refine compL_map (v := 1) (g := fun _ => .bl true) rfl (by rw [List.length_map]; omega) (fun d hd Q' hq => ?_) ?_
  · obtain ⟨b, hbm, rfl⟩ := List.mem_map.mp hd
    obtain ⟨b1, b2⟩ := hb b hbm
    simp only [e_is_within, wSeq, wNext, wIfS, wSetF, wSet, into, wSetIx, wRet, wRetN, wDrop, wB, wBin, wUn, wCB, wCons, wNil, wVar, wC, wIf, wAnd, wOr, DL.wNot, wAndV, wOrV, wNotV, wTup, wLst, wSl, wNoPart, wPart, wChain, wUnp, wgTup, wgCons, wgNil, wName, wIsi, wListRg, wRg1, wRg2, wTupRg, wPuts, puts, Rz.sd, wConsH, wAppend, wExtend, ownL, dI, dI0, dIx, dInt, dAbs, dLen, dMax2, dMin2, dSum, dAll, dAny, dList, dTuple, dAdd, dNeg, dIsN, dNotN, PD.isN, dSl, look, looks, ok, Rz.pd, SD.pd, OD.pd, Rz.cold, Rz.cool, warm, pdsOf, frz, frzAll, leave, argOf, onceB, newBor, isBor, ty_non, ty_bl, ty_int, ty_str, ty_lst, ty_scr, ty_tup, ty_dct, isa, String.reduceBEq, beq_self_eq_true, Bool.false_and, Bool.and_false, Bool.not_true, Bool.or_self, wYes, wCall, backS_0, backS_1, backS_2, backS_3, backS_4, backS_o0, backS_o1, backS_o2, backS_o3, dEq_int, dEq_str, dNeX_int, dNeX_str, List.length_cons, List.length_nil, List.cons_append, List.nil_append, List.replicate, Nat.reduceAdd, Nat.reduceSub, List.getElem?_cons_zero, List.getElem?_cons_succ, Option.bind_some, List.set_cons_zero, List.set_cons_succ, List.map_cons, List.map_nil, List.any_cons, List.any_nil, List.getD_cons_zero, List.getD_cons_succ, true_or, or_true, true_and, and_true, Bool.and_true, Bool.true_and, Bool.or_false, Bool.false_or, Bool.not_false, Bool.not_true, Bool.or_true, Bool.true_or, decide_true, decide_false, wFor, wRng1, wRng2, wLc, wSeqI, items, wEnumX, wCallO, wNever, noOwn, List.all_cons, List.all_nil, wipeS, Bool.and_self, decide_eq_true_eq, atI0a, atI0b, atI0c, atI1b, atI1c, atI2c]
    refine isWithin_ok ⟨_, rfl⟩ ?_
    have e : within (.int b) 2 4 = true := by simp only [within, decide_eq_true b1, decide_eq_true b2, Bool.and_self]
    rw [e]
    exact hq
  · have e : (List.map (fun _ => PD.bl true) (List.map PD.int ns)) = List.replicate ns.length (.bl true) := by
      rw [List.map_map]; exact List.map_const' ..
    rw [e]
    simp only [bools_rep, all_rep, restore, wSeq, wNext, wIfS, wSetF, wSet, into, wSetIx, wRet, wRetN, wDrop, wB, wBin, wUn, wCB, wCons, wNil, wVar, wC, wIf, wAnd, wOr, DL.wNot, wAndV, wOrV, wNotV, wTup, wLst, wSl, wNoPart, wPart, wChain, wUnp, wgTup, wgCons, wgNil, wName, wIsi, wListRg, wRg1, wRg2, wTupRg, wPuts, puts, Rz.sd, wConsH, wAppend, wExtend, ownL, dI, dI0, dIx, dInt, dAbs, dLen, dMax2, dMin2, dSum, dAll, dAny, dList, dTuple, dAdd, dNeg, dIsN, dNotN, PD.isN, dSl, look, looks, ok, Rz.pd, SD.pd, OD.pd, Rz.cold, Rz.cool, warm, pdsOf, frz, frzAll, leave, argOf, onceB, newBor, isBor, ty_non, ty_bl, ty_int, ty_str, ty_lst, ty_scr, ty_tup, ty_dct, isa, String.reduceBEq, beq_self_eq_true, Bool.false_and, Bool.and_false, Bool.not_true, Bool.or_self, wYes, wCall, backS_0, backS_1, backS_2, backS_3, backS_4, backS_o0, backS_o1, backS_o2, backS_o3, dEq_int, dEq_str, dNeX_int, dNeX_str, List.length_cons, List.length_nil, List.cons_append, List.nil_append, List.replicate, Nat.reduceAdd, Nat.reduceSub, List.getElem?_cons_zero, List.getElem?_cons_succ, Option.bind_some, List.set_cons_zero, List.set_cons_succ, List.map_cons, List.map_nil, List.any_cons, List.any_nil, List.getD_cons_zero, List.getD_cons_succ, true_or, or_true, true_and, and_true, Bool.and_true, Bool.true_and, Bool.or_false, Bool.false_or, Bool.not_false, Bool.not_true, Bool.or_true, Bool.true_or, decide_true, decide_false, wFor, wRng1, wRng2, wLc, wSeqI, items, wEnumX, wCallO, wNever, noOwn, List.all_cons, List.all_nil, wipeS, Bool.and_self, decide_eq_true_eq, atI0a, atI0b, atI0c, atI1b, atI1c, atI2c]
    exact ⟨.inr ⟨_, rfl⟩, h⟩
/-- the weight of a base -/
def W (ns : List Int) (i : Nat) : Int := (wts ns 1).getD i 0
theorem wts_get : ∀ (ns : List Int) (p : Int) (i : Nat) (b : Int), ns[i]? = some b → ∃ w, (wts ns p)[i]? = some w ∧ (wts ns p)[i + 1]? = some (w * b)
  | [], _, i, _, h => by simp at h
  | c :: cs, p, 0, b, h => by
    simp at h; subst h
    refine ⟨p, rfl, ?_⟩
    cases cs with
    | nil => rfl
    | cons c' cs => rfl
  | c :: cs, p, i + 1, b, h => by
    obtain ⟨w, h1, h2⟩ := wts_get cs (p * c) i b (by simpa using h)
    exact ⟨w, by simpa [wts] using h1, by simpa [wts] using h2⟩
theorem wts_zero : ∀ (ns : List Int) (p : Int), (wts ns p)[0]? = some p
  | [], _ => rfl
  | _ :: _, _ => rfl
theorem W_get {ns : List Int} {i : Nat} (h : i ≤ ns.length) : (wts ns 1)[i]? = some (W ns i) := by
  have hl : i < (wts ns 1).length := by rw [wts_len]; omega
  unfold W
  rw [List.getD_eq_getElem?_getD, List.getElem?_eq_getElem hl]
  rfl
theorem W_zero {ns : List Int} : W ns 0 = 1 := by
  have := W_get (ns := ns) (i := 0) (Nat.zero_le _)
  rw [wts_zero] at this
  exact (Option.some.inj this).symm
theorem W_succ {ns : List Int} {i : Nat} {b : Int} (h : ns[i]? = some b) : W ns (i + 1) = W ns i * b := by
  have hi := (List.getElem?_eq_some_iff.mp h).1
  obtain ⟨w, h1, h2⟩ := wts_get ns 1 i b h
  rw [W_get (by omega)] at h1 h2
  rw [Option.some.inj h2, Option.some.inj h1]
theorem W_pos {ns : List Int} (hb : Bases ns) : ∀ i, i ≤ ns.length → 1 ≤ W ns i ∧ W ns i ≤ 4 ^ i
  | 0, _ => by rw [W_zero]; exact ⟨by omega, by decide⟩
  | i + 1, h => by
    obtain ⟨h1, h2⟩ := W_pos hb i (by omega)
    have hi : ns[i]? = some ns[i] := List.getElem?_eq_getElem (by omega)
    obtain ⟨b1, b2⟩ := hb ns[i] (List.getElem_mem _)
    rw [W_succ hi]
    refine ⟨?_, ?_⟩
    · have := Int.mul_le_mul h1 b1 (by omega) (by omega)
      omega
    · rw [Int.pow_succ]
      exact Int.mul_le_mul h2 b2 (by omega) (by omega)
theorem W_sm {ns : List Int} (hb : Bases ns) (hl : ns.length ≤ 40) {i : Nat} (h : i ≤ ns.length) : 1 ≤ W ns i ∧ W ns i < 2 ^ 127 := by
  obtain ⟨h1, h2⟩ := W_pos hb i h
  exact ⟨h1, Int.lt_of_le_of_lt (Int.le_trans h2 (pow4_le (by omega))) pow4⟩
/-- the pair that figures_clash looks at, at a stage -/
def St (w : Str) (n : Int) (ns : List Int) (i : Nat) : Bool := Poss w n (W ns i - 1) (W ns (i + 1)) (W ns i - 1)
theorem figures_clash_ok {cl : Nat → Addr} {ns : List Int} {w : Str} {n : Int} {Q : Rz → Sl → Prop} {Ξ : Xp} (hb : Bases ns) (h1 : 1 ≤ ns.length) (h2 : ns.length ≤ 40) (hs : Sv w n)
    (h : (∀ i, i + 1 < ns.length → St w n ns i = false) → Q (.dat .non) [.dat (bs ns), .dat (sv w n)])
    (h' : ∀ i, i + 1 < ns.length → St w n ns i = true → Q (.dat (.tup [.int (W ns i - 1), .int (W ns (i + 1)), .int (W ns i - 1), .int (i : Nat)])) [.dat (bs ns), .dat (sv w n)]) : F_figures_clash cl [.dat (bs ns), .dat (sv w n)] Q Ξ := by
  unfold F_figures_clash mkF
  refine ⟨pinnedD (xs := [bs ns, sv w n]), ?_⟩
  simp only [w_figures_clash, wSeq, wNext, wIfS, wSetF, wSet, into, wSetIx, wRet, wRetN, wDrop, wB, wBin, wUn, wCB, wCons, wNil, wVar, wC, wIf, wAnd, wOr, DL.wNot, wAndV, wOrV, wNotV, wTup, wLst, wSl, wNoPart, wPart, wChain, wUnp, wgTup, wgCons, wgNil, wName, wIsi, wListRg, wRg1, wRg2, wTupRg, wPuts, puts, Rz.sd, wConsH, wAppend, wExtend, ownL, dI, dI0, dIx, dInt, dAbs, dLen, dMax2, dMin2, dSum, dAll, dAny, dList, dTuple, dAdd, dNeg, dIsN, dNotN, PD.isN, dSl, look, looks, ok, Rz.pd, SD.pd, OD.pd, Rz.cold, Rz.cool, warm, pdsOf, frz, frzAll, leave, argOf, onceB, newBor, isBor, ty_non, ty_bl, ty_int, ty_str, ty_lst, ty_scr, ty_tup, ty_dct, isa, String.reduceBEq, beq_self_eq_true, Bool.false_and, Bool.and_false, Bool.not_true, Bool.or_self, wYes, wCall, backS_0, backS_1, backS_2, backS_3, backS_4, backS_o0, backS_o1, backS_o2, backS_o3, dEq_int, dEq_str, dNeX_int, dNeX_str, List.length_cons, List.length_nil, List.cons_append, List.nil_append, List.replicate, Nat.reduceAdd, Nat.reduceSub, List.getElem?_cons_zero, List.getElem?_cons_succ, Option.bind_some, List.set_cons_zero, List.set_cons_succ, List.map_cons, List.map_nil, List.any_cons, List.any_nil, List.getD_cons_zero, List.getD_cons_succ, true_or, or_true, true_and, and_true, Bool.and_true, Bool.true_and, Bool.or_false, Bool.false_or, Bool.not_false, Bool.not_true, Bool.or_true, Bool.true_or, decide_true, decide_false, wFor, wRng1, wRng2, wLc, wSeqI, items, wEnumX, wCallO, wNever, noOwn, List.all_cons, List.all_nil, wipeS, Bool.and_self, decide_eq_true_eq, atI0a, atI0b, atI0c, atI1b, atI1c, atI2c]
  refine check_bases_ok hb h1 h2 ?_
  simp only [e_check_service, wSeq, wNext, wIfS, wSetF, wSet, into, wSetIx, wRet, wRetN, wDrop, wB, wBin, wUn, wCB, wCons, wNil, wVar, wC, wIf, wAnd, wOr, DL.wNot, wAndV, wOrV, wNotV, wTup, wLst, wSl, wNoPart, wPart, wChain, wUnp, wgTup, wgCons, wgNil, wName, wIsi, wListRg, wRg1, wRg2, wTupRg, wPuts, puts, Rz.sd, wConsH, wAppend, wExtend, ownL, dI, dI0, dIx, dInt, dAbs, dLen, dMax2, dMin2, dSum, dAll, dAny, dList, dTuple, dAdd, dNeg, dIsN, dNotN, PD.isN, dSl, look, looks, ok, Rz.pd, SD.pd, OD.pd, Rz.cold, Rz.cool, warm, pdsOf, frz, frzAll, leave, argOf, onceB, newBor, isBor, ty_non, ty_bl, ty_int, ty_str, ty_lst, ty_scr, ty_tup, ty_dct, isa, String.reduceBEq, beq_self_eq_true, Bool.false_and, Bool.and_false, Bool.not_true, Bool.or_self, wYes, wCall, backS_0, backS_1, backS_2, backS_3, backS_4, backS_o0, backS_o1, backS_o2, backS_o3, dEq_int, dEq_str, dNeX_int, dNeX_str, List.length_cons, List.length_nil, List.cons_append, List.nil_append, List.replicate, Nat.reduceAdd, Nat.reduceSub, List.getElem?_cons_zero, List.getElem?_cons_succ, Option.bind_some, List.set_cons_zero, List.set_cons_succ, List.map_cons, List.map_nil, List.any_cons, List.any_nil, List.getD_cons_zero, List.getD_cons_succ, true_or, or_true, true_and, and_true, Bool.and_true, Bool.true_and, Bool.or_false, Bool.false_or, Bool.not_false, Bool.not_true, Bool.or_true, Bool.true_or, decide_true, decide_false, wFor, wRng1, wRng2, wLc, wSeqI, items, wEnumX, wCallO, wNever, noOwn, List.all_cons, List.all_nil, wipeS, Bool.and_self, decide_eq_true_eq, atI0a, atI0b, atI0c, atI1b, atI1c, atI2c]
  refine checkService_ok hs ?_
  simp only [e_weights_of, wSeq, wNext, wIfS, wSetF, wSet, into, wSetIx, wRet, wRetN, wDrop, wB, wBin, wUn, wCB, wCons, wNil, wVar, wC, wIf, wAnd, wOr, DL.wNot, wAndV, wOrV, wNotV, wTup, wLst, wSl, wNoPart, wPart, wChain, wUnp, wgTup, wgCons, wgNil, wName, wIsi, wListRg, wRg1, wRg2, wTupRg, wPuts, puts, Rz.sd, wConsH, wAppend, wExtend, ownL, dI, dI0, dIx, dInt, dAbs, dLen, dMax2, dMin2, dSum, dAll, dAny, dList, dTuple, dAdd, dNeg, dIsN, dNotN, PD.isN, dSl, look, looks, ok, Rz.pd, SD.pd, OD.pd, Rz.cold, Rz.cool, warm, pdsOf, frz, frzAll, leave, argOf, onceB, newBor, isBor, ty_non, ty_bl, ty_int, ty_str, ty_lst, ty_scr, ty_tup, ty_dct, isa, String.reduceBEq, beq_self_eq_true, Bool.false_and, Bool.and_false, Bool.not_true, Bool.or_self, wYes, wCall, backS_0, backS_1, backS_2, backS_3, backS_4, backS_o0, backS_o1, backS_o2, backS_o3, dEq_int, dEq_str, dNeX_int, dNeX_str, List.length_cons, List.length_nil, List.cons_append, List.nil_append, List.replicate, Nat.reduceAdd, Nat.reduceSub, List.getElem?_cons_zero, List.getElem?_cons_succ, Option.bind_some, List.set_cons_zero, List.set_cons_succ, List.map_cons, List.map_nil, List.any_cons, List.any_nil, List.getD_cons_zero, List.getD_cons_succ, true_or, or_true, true_and, and_true, Bool.and_true, Bool.true_and, Bool.or_false, Bool.false_or, Bool.not_false, Bool.not_true, Bool.or_true, Bool.true_or, decide_true, decide_false, wFor, wRng1, wRng2, wLc, wSeqI, items, wEnumX, wCallO, wNever, noOwn, List.all_cons, List.all_nil, wipeS, Bool.and_self, decide_eq_true_eq, atI0a, atI0b, atI0c, atI1b, atI1c, atI2c]
  refine weights_ok hb (by omega) ?_
  simp only [wSeq, wNext, wIfS, wSetF, wSet, into, wSetIx, wRet, wRetN, wDrop, wB, wBin, wUn, wCB, wCons, wNil, wVar, wC, wIf, wAnd, wOr, DL.wNot, wAndV, wOrV, wNotV, wTup, wLst, wSl, wNoPart, wPart, wChain, wUnp, wgTup, wgCons, wgNil, wName, wIsi, wListRg, wRg1, wRg2, wTupRg, wPuts, puts, Rz.sd, wConsH, wAppend, wExtend, ownL, dI, dI0, dIx, dInt, dAbs, dLen, dMax2, dMin2, dSum, dAll, dAny, dList, dTuple, dAdd, dNeg, dIsN, dNotN, PD.isN, dSl, look, looks, ok, Rz.pd, SD.pd, OD.pd, Rz.cold, Rz.cool, warm, pdsOf, frz, frzAll, leave, argOf, onceB, newBor, isBor, ty_non, ty_bl, ty_int, ty_str, ty_lst, ty_scr, ty_tup, ty_dct, isa, String.reduceBEq, beq_self_eq_true, Bool.false_and, Bool.and_false, Bool.not_true, Bool.or_self, wYes, wCall, backS_0, backS_1, backS_2, backS_3, backS_4, backS_o0, backS_o1, backS_o2, backS_o3, dEq_int, dEq_str, dNeX_int, dNeX_str, List.length_cons, List.length_nil, List.cons_append, List.nil_append, List.replicate, Nat.reduceAdd, Nat.reduceSub, List.getElem?_cons_zero, List.getElem?_cons_succ, Option.bind_some, List.set_cons_zero, List.set_cons_succ, List.map_cons, List.map_nil, List.any_cons, List.any_nil, List.getD_cons_zero, List.getD_cons_succ, true_or, or_true, true_and, and_true, Bool.and_true, Bool.true_and, Bool.or_false, Bool.false_or, Bool.not_false, Bool.not_true, Bool.or_true, Bool.true_or, decide_true, decide_false, wFor, wRng1, wRng2, wLc, wSeqI, items, wEnumX, wCallO, wNever, noOwn, List.all_cons, List.all_nil, wipeS, Bool.and_self, decide_eq_true_eq, atI0a, atI0b, atI0c, atI1b, atI1c, atI2c]
  refine ⟨.inr ⟨_, rfl⟩, ?_⟩
  have hw : ((wts ns 1).map PD.int).length = ns.length + 1 := by rw [List.length_map, wts_len]
  have cut : cutP ((wts ns 1).map PD.int) none (some (-2)) = ((wts ns 1).take (ns.length - 1)).map PD.int := by
    unfold cutP
    have e1 : HT.sIx ((wts ns 1).map PD.int).length 0 none = 0 := rfl
    have e2 : HT.sIx ((wts ns 1).map PD.int).length ((wts ns 1).map PD.int).length (some (-2)) = ns.length - 1 := by
      rw [hw]
      have := HT.clip_eq (-2) (ns.length + 1) (ns.length + 1)
      rw [if_pos (by decide)] at this
      omega
    rw [e1, e2, List.drop_zero, Nat.sub_zero, List.map_take]
  simp only [cut, wSeq, wNext, wIfS, wSetF, wSet, into, wSetIx, wRet, wRetN, wDrop, wB, wBin, wUn, wCB, wCons, wNil, wVar, wC, wIf, wAnd, wOr, DL.wNot, wAndV, wOrV, wNotV, wTup, wLst, wSl, wNoPart, wPart, wChain, wUnp, wgTup, wgCons, wgNil, wName, wIsi, wListRg, wRg1, wRg2, wTupRg, wPuts, puts, Rz.sd, wConsH, wAppend, wExtend, ownL, dI, dI0, dIx, dInt, dAbs, dLen, dMax2, dMin2, dSum, dAll, dAny, dList, dTuple, dAdd, dNeg, dIsN, dNotN, PD.isN, dSl, look, looks, ok, Rz.pd, SD.pd, OD.pd, Rz.cold, Rz.cool, warm, pdsOf, frz, frzAll, leave, argOf, onceB, newBor, isBor, ty_non, ty_bl, ty_int, ty_str, ty_lst, ty_scr, ty_tup, ty_dct, isa, String.reduceBEq, beq_self_eq_true, Bool.false_and, Bool.and_false, Bool.not_true, Bool.or_self, wYes, wCall, backS_0, backS_1, backS_2, backS_3, backS_4, backS_o0, backS_o1, backS_o2, backS_o3, dEq_int, dEq_str, dNeX_int, dNeX_str, List.length_cons, List.length_nil, List.cons_append, List.nil_append, List.replicate, Nat.reduceAdd, Nat.reduceSub, List.getElem?_cons_zero, List.getElem?_cons_succ, Option.bind_some, List.set_cons_zero, List.set_cons_succ, List.map_cons, List.map_nil, List.any_cons, List.any_nil, List.getD_cons_zero, List.getD_cons_succ, true_or, or_true, true_and, and_true, Bool.and_true, Bool.true_and, Bool.or_false, Bool.false_or, Bool.not_false, Bool.not_true, Bool.or_true, Bool.true_or, decide_true, decide_false, wFor, wRng1, wRng2, wLc, wSeqI, items, wEnumX, wCallO, wNever, noOwn, List.all_cons, List.all_nil, wipeS, Bool.and_self, decide_eq_true_eq, atI0a, atI0b, atI0c, atI1b, atI1c, atI2c]
  refine ⟨.inr ⟨_, rfl⟩, ?_⟩
  rw [enum_rg]
  have hlt : ((wts ns 1).take (ns.length - 1)).length = ns.length - 1 := by rw [List.length_take, wts_len]; omega
  rw [List.length_map, hlt]
  have z2 : (2 : Nat) ≤ sizeLine := sz (by decide)
  have z3 : (3 : Nat) ≤ sizeLine := sz (by decide)
  have z1 : (1 : Nat) ≤ sizeLine := sz (by decide)
  refine forL_upto (fun k ρ => (∃ s3 s4 s5, ρ = [.dat (bs ns), .dat (sv w n), .dat (.lst ((wts ns 1).map .int)), s3, s4, s5]) ∧ ∀ j < k, St w n ns j = false) _ 0 _ ⟨⟨_, _, _, rfl⟩, fun j hj => by omega⟩ (fun j d ρ N hj hI hN => ?_) (fun ρ hI => ?_)
  · obtain ⟨⟨s3, s4, s5, rfl⟩, hno⟩ := hI
    have hjl : j < ns.length - 1 := by
      have := (List.getElem?_eq_some_iff.mp hj).1
      rw [List.length_map, List.length_range'] at this; exact this
    rw [List.getElem?_map, List.getElem?_range' hjl] at hj
    have hd : d = .tup [.int (j : Nat), .int (W ns j)] := by
      have e : (List.map PD.int (List.take (ns.length - 1) (wts ns 1)))[j]? = some (.int (W ns j)) := by
        rw [List.getElem?_map, List.getElem?_take_of_lt hjl, W_get (by omega)]; rfl
      have := Option.some.inj hj
      rw [← this, Nat.zero_add, Nat.one_mul]
      dsimp only
      rw [List.getD_eq_getElem?_getD, e]; rfl
    subst hd
    have at1 : atI ((wts ns 1).map PD.int) ((j : Int) + 1) = some (.int (W ns (j + 1))) := by
      obtain ⟨x, h3, h4⟩ := atI_of (xs := (wts ns 1).map PD.int) (d := (j : Int) + 1) (by omega) (by rw [hw]; omega)
      rw [h3]
      have e : ((j : Int) + 1).toNat = j + 1 := by omega
      rw [e, List.getElem?_map, W_get (by omega)] at h4
      exact h4.symm
    obtain ⟨w1, w2⟩ := W_sm hb h2 (i := j) (by omega)
    simp only [at1, z1, z2, z3, wSeq, wNext, wIfS, wSetF, wSet, into, wSetIx, wRet, wRetN, wDrop, wB, wBin, wUn, wCB, wCons, wNil, wVar, wC, wIf, wAnd, wOr, DL.wNot, wAndV, wOrV, wNotV, wTup, wLst, wSl, wNoPart, wPart, wChain, wUnp, wgTup, wgCons, wgNil, wName, wIsi, wListRg, wRg1, wRg2, wTupRg, wPuts, puts, Rz.sd, wConsH, wAppend, wExtend, ownL, dI, dI0, dIx, dInt, dAbs, dLen, dMax2, dMin2, dSum, dAll, dAny, dList, dTuple, dAdd, dNeg, dIsN, dNotN, PD.isN, dSl, look, looks, ok, Rz.pd, SD.pd, OD.pd, Rz.cold, Rz.cool, warm, pdsOf, frz, frzAll, leave, argOf, onceB, newBor, isBor, ty_non, ty_bl, ty_int, ty_str, ty_lst, ty_scr, ty_tup, ty_dct, isa, String.reduceBEq, beq_self_eq_true, Bool.false_and, Bool.and_false, Bool.not_true, Bool.or_self, wYes, wCall, backS_0, backS_1, backS_2, backS_3, backS_4, backS_o0, backS_o1, backS_o2, backS_o3, dEq_int, dEq_str, dNeX_int, dNeX_str, List.length_cons, List.length_nil, List.cons_append, List.nil_append, List.replicate, Nat.reduceAdd, Nat.reduceSub, List.getElem?_cons_zero, List.getElem?_cons_succ, Option.bind_some, List.set_cons_zero, List.set_cons_succ, List.map_cons, List.map_nil, List.any_cons, List.any_nil, List.getD_cons_zero, List.getD_cons_succ, true_or, or_true, true_and, and_true, Bool.and_true, Bool.true_and, Bool.or_false, Bool.false_or, Bool.not_false, Bool.not_true, Bool.or_true, Bool.true_or, decide_true, decide_false, wFor, wRng1, wRng2, wLc, wSeqI, items, wEnumX, wCallO, wNever, noOwn, List.all_cons, List.all_nil, wipeS, Bool.and_self, decide_eq_true_eq, atI0a, atI0b, atI0c, atI1b, atI1c, atI2c]
    simp only [e_is_possible]
    refine isPossible_ok hs (sm_big (by omega)) ?_
    show match (St w n ns j) with | true => _ | false => _
    cases hst : St w n ns j with
    | true =>
      simp only [z1, wSeq, wNext, wIfS, wSetF, wSet, into, wSetIx, wRet, wRetN, wDrop, wB, wBin, wUn, wCB, wCons, wNil, wVar, wC, wIf, wAnd, wOr, DL.wNot, wAndV, wOrV, wNotV, wTup, wLst, wSl, wNoPart, wPart, wChain, wUnp, wgTup, wgCons, wgNil, wName, wIsi, wListRg, wRg1, wRg2, wTupRg, wPuts, puts, Rz.sd, wConsH, wAppend, wExtend, ownL, dI, dI0, dIx, dInt, dAbs, dLen, dMax2, dMin2, dSum, dAll, dAny, dList, dTuple, dAdd, dNeg, dIsN, dNotN, PD.isN, dSl, look, looks, ok, Rz.pd, SD.pd, OD.pd, Rz.cold, Rz.cool, warm, pdsOf, frz, frzAll, leave, argOf, onceB, newBor, isBor, ty_non, ty_bl, ty_int, ty_str, ty_lst, ty_scr, ty_tup, ty_dct, isa, String.reduceBEq, beq_self_eq_true, Bool.false_and, Bool.and_false, Bool.not_true, Bool.or_self, wYes, wCall, backS_0, backS_1, backS_2, backS_3, backS_4, backS_o0, backS_o1, backS_o2, backS_o3, dEq_int, dEq_str, dNeX_int, dNeX_str, List.length_cons, List.length_nil, List.cons_append, List.nil_append, List.replicate, Nat.reduceAdd, Nat.reduceSub, List.getElem?_cons_zero, List.getElem?_cons_succ, Option.bind_some, List.set_cons_zero, List.set_cons_succ, List.map_cons, List.map_nil, List.any_cons, List.any_nil, List.getD_cons_zero, List.getD_cons_succ, true_or, or_true, true_and, and_true, Bool.and_true, Bool.true_and, Bool.or_false, Bool.false_or, Bool.not_false, Bool.not_true, Bool.or_true, Bool.true_or, decide_true, decide_false, wFor, wRng1, wRng2, wLc, wSeqI, items, wEnumX, wCallO, wNever, noOwn, List.all_cons, List.all_nil, wipeS, Bool.and_self, decide_eq_true_eq, atI0a, atI0b, atI0c, atI1b, atI1c, atI2c]
      exact ⟨sz (by decide), h' j (by omega) hst⟩
    | false =>
      refine hN _ ⟨⟨_, _, _, rfl⟩, fun i hi => ?_⟩
      by_cases e : i = j
      · subst e; exact hst
      · exact hno i (by omega)
  · obtain ⟨⟨s3, s4, s5, rfl⟩, hno⟩ := hI
    simp only [wSeq, wNext, wIfS, wSetF, wSet, into, wSetIx, wRet, wRetN, wDrop, wB, wBin, wUn, wCB, wCons, wNil, wVar, wC, wIf, wAnd, wOr, DL.wNot, wAndV, wOrV, wNotV, wTup, wLst, wSl, wNoPart, wPart, wChain, wUnp, wgTup, wgCons, wgNil, wName, wIsi, wListRg, wRg1, wRg2, wTupRg, wPuts, puts, Rz.sd, wConsH, wAppend, wExtend, ownL, dI, dI0, dIx, dInt, dAbs, dLen, dMax2, dMin2, dSum, dAll, dAny, dList, dTuple, dAdd, dNeg, dIsN, dNotN, PD.isN, dSl, look, looks, ok, Rz.pd, SD.pd, OD.pd, Rz.cold, Rz.cool, warm, pdsOf, frz, frzAll, leave, argOf, onceB, newBor, isBor, ty_non, ty_bl, ty_int, ty_str, ty_lst, ty_scr, ty_tup, ty_dct, isa, String.reduceBEq, beq_self_eq_true, Bool.false_and, Bool.and_false, Bool.not_true, Bool.or_self, wYes, wCall, backS_0, backS_1, backS_2, backS_3, backS_4, backS_o0, backS_o1, backS_o2, backS_o3, dEq_int, dEq_str, dNeX_int, dNeX_str, List.length_cons, List.length_nil, List.cons_append, List.nil_append, List.replicate, Nat.reduceAdd, Nat.reduceSub, List.getElem?_cons_zero, List.getElem?_cons_succ, Option.bind_some, List.set_cons_zero, List.set_cons_succ, List.map_cons, List.map_nil, List.any_cons, List.any_nil, List.getD_cons_zero, List.getD_cons_succ, true_or, or_true, true_and, and_true, Bool.and_true, Bool.true_and, Bool.or_false, Bool.false_or, Bool.not_false, Bool.not_true, Bool.or_true, Bool.true_or, decide_true, decide_false, wFor, wRng1, wRng2, wLc, wSeqI, items, wEnumX, wCallO, wNever, noOwn, List.all_cons, List.all_nil, wipeS, Bool.and_self, decide_eq_true_eq, atI0a, atI0b, atI0c, atI1b, atI1c, atI2c]
    refine h fun i hi => hno i ?_
    rw [List.length_map, List.length_range']; omega
/-- by figures a service is served -/
def Served (w : Str) (n : Int) (ns : List Int) : Bool := if w = "queue" then decide (n = 1) || (ns.dropLast.map fun b => decide (n ≤ b)).all id else decide ((ns.length : Int) = 1) || (decide (n = 1) && decide ((ns.length : Int) = 2))
theorem cut_last {α : Type} (xs : List α) : cutP xs none (some (-1)) = xs.dropLast := by
  unfold cutP
  have e1 : HT.sIx xs.length 0 none = 0 := rfl
  have e2 : HT.sIx xs.length xs.length (some (-1)) = xs.length - 1 := by
    have := HT.clip_eq (-1) xs.length xs.length
    rw [if_pos (by decide)] at this
    omega
  rw [e1, e2, List.drop_zero, Nat.sub_zero, List.dropLast_eq_take]
theorem does_serve_ok {cl : Nat → Addr} {w : Str} {n : Int} {ns : List Int} {Q : Rz → Sl → Prop} {Ξ : Xp} (hs : Sv w n) (h2 : ns.length ≤ 40) (h : Q (.dat (.bl (Served w n ns))) [.dat (bs ns), .dat (sv w n)]) : F__law_does_figure_serve cl [.dat (bs ns), .dat (sv w n)] Q Ξ := by
  obtain ⟨hw, n1, n2⟩ := hs
  unfold F__law_does_figure_serve mkF
  refine ⟨pinnedD (xs := [bs ns, sv w n]), ?_⟩
  have z2 : (2 : Nat) ≤ sizeLine := sz (by decide)
  have other : ∀ w : Str, w ≠ "queue" → Served w n ns = (decide ((ns.length : Int) = 1) || (decide (n = 1) && decide ((ns.length : Int) = 2))) := fun w hw => by unfold Served; rw [if_neg hw]
  simp only [w__law_does_figure_serve, sv, bs, z2, List.length_map, wSeq, wNext, wIfS, wSetF, wSet, into, wSetIx, wRet, wRetN, wDrop, wB, wBin, wUn, wCB, wCons, wNil, wVar, wC, wIf, wAnd, wOr, DL.wNot, wAndV, wOrV, wNotV, wTup, wLst, wSl, wNoPart, wPart, wChain, wUnp, wgTup, wgCons, wgNil, wName, wIsi, wListRg, wRg1, wRg2, wTupRg, wPuts, puts, Rz.sd, wConsH, wAppend, wExtend, ownL, dI, dI0, dIx, dInt, dAbs, dLen, dMax2, dMin2, dSum, dAll, dAny, dList, dTuple, dAdd, dNeg, dIsN, dNotN, PD.isN, dSl, look, looks, ok, Rz.pd, SD.pd, OD.pd, Rz.cold, Rz.cool, warm, pdsOf, frz, frzAll, leave, argOf, onceB, newBor, isBor, ty_non, ty_bl, ty_int, ty_str, ty_lst, ty_scr, ty_tup, ty_dct, isa, String.reduceBEq, beq_self_eq_true, Bool.false_and, Bool.and_false, Bool.not_true, Bool.or_self, wYes, wCall, backS_0, backS_1, backS_2, backS_3, backS_4, backS_o0, backS_o1, backS_o2, backS_o3, dEq_int, dEq_str, dNeX_int, dNeX_str, List.length_cons, List.length_nil, List.cons_append, List.nil_append, List.replicate, Nat.reduceAdd, Nat.reduceSub, List.getElem?_cons_zero, List.getElem?_cons_succ, Option.bind_some, List.set_cons_zero, List.set_cons_succ, List.map_cons, List.map_nil, List.any_cons, List.any_nil, List.getD_cons_zero, List.getD_cons_succ, true_or, or_true, true_and, and_true, Bool.and_true, Bool.true_and, Bool.or_false, Bool.false_or, Bool.not_false, Bool.not_true, Bool.or_true, Bool.true_or, decide_true, decide_false, wFor, wRng1, wRng2, wLc, wSeqI, items, wEnumX, wCallO, wNever, noOwn, List.all_cons, List.all_nil, wipeS, Bool.and_self, decide_eq_true_eq, atI0a, atI0b, atI0c, atI1b, atI1c, atI2c]
  have tail : ∀ w : Str, w ≠ "queue" → Served w n ns = Served w n ns → (Q (.dat (.bl (Served w n ns))) [.dat (.tup (ns.map .int)), .dat (.tup [.str w, .int n])]) → (match decide ((ns.length : Int) = 1) with
      | true => Q (.dat (.bl true)) [.dat (.tup (ns.map .int)), .dat (.tup [.str w, .int n])]
      | false => match decide (n = 1) with
        | true => Q (.dat (.bl (decide ((ns.length : Int) = 2)))) [.dat (.tup (ns.map .int)), .dat (.tup [.str w, .int n])]
        | false => Q (.dat (.bl false)) [.dat (.tup (ns.map .int)), .dat (.tup [.str w, .int n])]) := fun w hw _ h => by
    rw [other w hw] at h
    cases hl : decide ((ns.length : Int) = 1) with
    | true => rw [hl, Bool.true_or] at h; exact h
    | false =>
      rw [hl, Bool.false_or] at h
      cases hn : decide (n = 1) with
      | true => rw [hn, Bool.true_and] at h; exact h
      | false => rw [hn, Bool.false_and] at h; exact h
  rcases hw with rfl | rfl | rfl
  · have e : Served "queue" n ns = (decide (n = 1) || (ns.dropLast.map fun b => decide (n ≤ b)).all id) := by unfold Served; rw [if_pos rfl]
    rw [e] at h
    simp only [dEq_str sok_queue sok_queue, qq, wSeq, wNext, wIfS, wSetF, wSet, into, wSetIx, wRet, wRetN, wDrop, wB, wBin, wUn, wCB, wCons, wNil, wVar, wC, wIf, wAnd, wOr, DL.wNot, wAndV, wOrV, wNotV, wTup, wLst, wSl, wNoPart, wPart, wChain, wUnp, wgTup, wgCons, wgNil, wName, wIsi, wListRg, wRg1, wRg2, wTupRg, wPuts, puts, Rz.sd, wConsH, wAppend, wExtend, ownL, dI, dI0, dIx, dInt, dAbs, dLen, dMax2, dMin2, dSum, dAll, dAny, dList, dTuple, dAdd, dNeg, dIsN, dNotN, PD.isN, dSl, look, looks, ok, Rz.pd, SD.pd, OD.pd, Rz.cold, Rz.cool, warm, pdsOf, frz, frzAll, leave, argOf, onceB, newBor, isBor, ty_non, ty_bl, ty_int, ty_str, ty_lst, ty_scr, ty_tup, ty_dct, isa, String.reduceBEq, beq_self_eq_true, Bool.false_and, Bool.and_false, Bool.not_true, Bool.or_self, wYes, wCall, backS_0, backS_1, backS_2, backS_3, backS_4, backS_o0, backS_o1, backS_o2, backS_o3, dEq_int, dEq_str, dNeX_int, dNeX_str, List.length_cons, List.length_nil, List.cons_append, List.nil_append, List.replicate, Nat.reduceAdd, Nat.reduceSub, List.getElem?_cons_zero, List.getElem?_cons_succ, Option.bind_some, List.set_cons_zero, List.set_cons_succ, List.map_cons, List.map_nil, List.any_cons, List.any_nil, List.getD_cons_zero, List.getD_cons_succ, true_or, or_true, true_and, and_true, Bool.and_true, Bool.true_and, Bool.or_false, Bool.false_or, Bool.not_false, Bool.not_true, Bool.or_true, Bool.true_or, decide_true, decide_false, wFor, wRng1, wRng2, wLc, wSeqI, items, wEnumX, wCallO, wNever, noOwn, List.all_cons, List.all_nil, wipeS, Bool.and_self, decide_eq_true_eq, atI0a, atI0b, atI0c, atI1b, atI1c, atI2c]
    cases hn : decide (n = 1) with
    | true => rw [hn, Bool.true_or] at h; exact h
    | false =>
      rw [hn, Bool.false_or] at h
      have cut : cutP (ns.map PD.int) none (some (-1)) = ns.dropLast.map PD.int := by rw [cut_last, List.map_dropLast]
      simp only [cut, wSeq, wNext, wIfS, wSetF, wSet, into, wSetIx, wRet, wRetN, wDrop, wB, wBin, wUn, wCB, wCons, wNil, wVar, wC, wIf, wAnd, wOr, DL.wNot, wAndV, wOrV, wNotV, wTup, wLst, wSl, wNoPart, wPart, wChain, wUnp, wgTup, wgCons, wgNil, wName, wIsi, wListRg, wRg1, wRg2, wTupRg, wPuts, puts, Rz.sd, wConsH, wAppend, wExtend, ownL, dI, dI0, dIx, dInt, dAbs, dLen, dMax2, dMin2, dSum, dAll, dAny, dList, dTuple, dAdd, dNeg, dIsN, dNotN, PD.isN, dSl, look, looks, ok, Rz.pd, SD.pd, OD.pd, Rz.cold, Rz.cool, warm, pdsOf, frz, frzAll, leave, argOf, onceB, newBor, isBor, ty_non, ty_bl, ty_int, ty_str, ty_lst, ty_scr, ty_tup, ty_dct, isa, String.reduceBEq, beq_self_eq_true, Bool.false_and, Bool.and_false, Bool.not_true, Bool.or_self, wYes, wCall, backS_0, backS_1, backS_2, backS_3, backS_4, backS_o0, backS_o1, backS_o2, backS_o3, dEq_int, dEq_str, dNeX_int, dNeX_str, List.length_cons, List.length_nil, List.cons_append, List.nil_append, List.replicate, Nat.reduceAdd, Nat.reduceSub, List.getElem?_cons_zero, List.getElem?_cons_succ, Option.bind_some, List.set_cons_zero, List.set_cons_succ, List.map_cons, List.map_nil, List.any_cons, List.any_nil, List.getD_cons_zero, List.getD_cons_succ, true_or, or_true, true_and, and_true, Bool.and_true, Bool.true_and, Bool.or_false, Bool.false_or, Bool.not_false, Bool.not_true, Bool.or_true, Bool.true_or, decide_true, decide_false, wFor, wRng1, wRng2, wLc, wSeqI, items, wEnumX, wCallO, wNever, noOwn, List.all_cons, List.all_nil, wipeS, Bool.and_self, decide_eq_true_eq, atI0a, atI0b, atI0c, atI1b, atI1c, atI2c]
      refine compL_map (v := 4) (g := fun d => match d with | .int b => .bl (decide (n ≤ b)) | _ => .non) rfl (by rw [List.length_map, List.length_dropLast]; omega) (fun d hd Q' hq => ?_) ?_
      · obtain ⟨b, hbm, rfl⟩ := List.mem_map.mp hd
        simp only [wSeq, wNext, wIfS, wSetF, wSet, into, wSetIx, wRet, wRetN, wDrop, wB, wBin, wUn, wCB, wCons, wNil, wVar, wC, wIf, wAnd, wOr, DL.wNot, wAndV, wOrV, wNotV, wTup, wLst, wSl, wNoPart, wPart, wChain, wUnp, wgTup, wgCons, wgNil, wName, wIsi, wListRg, wRg1, wRg2, wTupRg, wPuts, puts, Rz.sd, wConsH, wAppend, wExtend, ownL, dI, dI0, dIx, dInt, dAbs, dLen, dMax2, dMin2, dSum, dAll, dAny, dList, dTuple, dAdd, dNeg, dIsN, dNotN, PD.isN, dSl, look, looks, ok, Rz.pd, SD.pd, OD.pd, Rz.cold, Rz.cool, warm, pdsOf, frz, frzAll, leave, argOf, onceB, newBor, isBor, ty_non, ty_bl, ty_int, ty_str, ty_lst, ty_scr, ty_tup, ty_dct, isa, String.reduceBEq, beq_self_eq_true, Bool.false_and, Bool.and_false, Bool.not_true, Bool.or_self, wYes, wCall, backS_0, backS_1, backS_2, backS_3, backS_4, backS_o0, backS_o1, backS_o2, backS_o3, dEq_int, dEq_str, dNeX_int, dNeX_str, List.length_cons, List.length_nil, List.cons_append, List.nil_append, List.replicate, Nat.reduceAdd, Nat.reduceSub, List.getElem?_cons_zero, List.getElem?_cons_succ, Option.bind_some, List.set_cons_zero, List.set_cons_succ, List.map_cons, List.map_nil, List.any_cons, List.any_nil, List.getD_cons_zero, List.getD_cons_succ, true_or, or_true, true_and, and_true, Bool.and_true, Bool.true_and, Bool.or_false, Bool.false_or, Bool.not_false, Bool.not_true, Bool.or_true, Bool.true_or, decide_true, decide_false, wFor, wRng1, wRng2, wLc, wSeqI, items, wEnumX, wCallO, wNever, noOwn, List.all_cons, List.all_nil, wipeS, Bool.and_self, decide_eq_true_eq, atI0a, atI0b, atI0c, atI1b, atI1c, atI2c]
        exact hq
      · have e2 : (ns.dropLast.map PD.int).map (fun d => match d with | .int b => PD.bl (decide (n ≤ b)) | _ => .non) = (ns.dropLast.map fun b => decide (n ≤ b)).map PD.bl := by rw [List.map_map, List.map_map]; rfl
        rw [e2]
        simp only [bools_map, restore, wSeq, wNext, wIfS, wSetF, wSet, into, wSetIx, wRet, wRetN, wDrop, wB, wBin, wUn, wCB, wCons, wNil, wVar, wC, wIf, wAnd, wOr, DL.wNot, wAndV, wOrV, wNotV, wTup, wLst, wSl, wNoPart, wPart, wChain, wUnp, wgTup, wgCons, wgNil, wName, wIsi, wListRg, wRg1, wRg2, wTupRg, wPuts, puts, Rz.sd, wConsH, wAppend, wExtend, ownL, dI, dI0, dIx, dInt, dAbs, dLen, dMax2, dMin2, dSum, dAll, dAny, dList, dTuple, dAdd, dNeg, dIsN, dNotN, PD.isN, dSl, look, looks, ok, Rz.pd, SD.pd, OD.pd, Rz.cold, Rz.cool, warm, pdsOf, frz, frzAll, leave, argOf, onceB, newBor, isBor, ty_non, ty_bl, ty_int, ty_str, ty_lst, ty_scr, ty_tup, ty_dct, isa, String.reduceBEq, beq_self_eq_true, Bool.false_and, Bool.and_false, Bool.not_true, Bool.or_self, wYes, wCall, backS_0, backS_1, backS_2, backS_3, backS_4, backS_o0, backS_o1, backS_o2, backS_o3, dEq_int, dEq_str, dNeX_int, dNeX_str, List.length_cons, List.length_nil, List.cons_append, List.nil_append, List.replicate, Nat.reduceAdd, Nat.reduceSub, List.getElem?_cons_zero, List.getElem?_cons_succ, Option.bind_some, List.set_cons_zero, List.set_cons_succ, List.map_cons, List.map_nil, List.any_cons, List.any_nil, List.getD_cons_zero, List.getD_cons_succ, true_or, or_true, true_and, and_true, Bool.and_true, Bool.true_and, Bool.or_false, Bool.false_or, Bool.not_false, Bool.not_true, Bool.or_true, Bool.true_or, decide_true, decide_false, wFor, wRng1, wRng2, wLc, wSeqI, items, wEnumX, wCallO, wNever, noOwn, List.all_cons, List.all_nil, wipeS, Bool.and_self, decide_eq_true_eq, atI0a, atI0b, atI0c, atI1b, atI1c, atI2c]
        exact ⟨.inr ⟨_, rfl⟩, h⟩
  · simp only [dEq_str sok_order sok_queue, oq, wSeq, wNext, wIfS, wSetF, wSet, into, wSetIx, wRet, wRetN, wDrop, wB, wBin, wUn, wCB, wCons, wNil, wVar, wC, wIf, wAnd, wOr, DL.wNot, wAndV, wOrV, wNotV, wTup, wLst, wSl, wNoPart, wPart, wChain, wUnp, wgTup, wgCons, wgNil, wName, wIsi, wListRg, wRg1, wRg2, wTupRg, wPuts, puts, Rz.sd, wConsH, wAppend, wExtend, ownL, dI, dI0, dIx, dInt, dAbs, dLen, dMax2, dMin2, dSum, dAll, dAny, dList, dTuple, dAdd, dNeg, dIsN, dNotN, PD.isN, dSl, look, looks, ok, Rz.pd, SD.pd, OD.pd, Rz.cold, Rz.cool, warm, pdsOf, frz, frzAll, leave, argOf, onceB, newBor, isBor, ty_non, ty_bl, ty_int, ty_str, ty_lst, ty_scr, ty_tup, ty_dct, isa, String.reduceBEq, beq_self_eq_true, Bool.false_and, Bool.and_false, Bool.not_true, Bool.or_self, wYes, wCall, backS_0, backS_1, backS_2, backS_3, backS_4, backS_o0, backS_o1, backS_o2, backS_o3, dEq_int, dEq_str, dNeX_int, dNeX_str, List.length_cons, List.length_nil, List.cons_append, List.nil_append, List.replicate, Nat.reduceAdd, Nat.reduceSub, List.getElem?_cons_zero, List.getElem?_cons_succ, Option.bind_some, List.set_cons_zero, List.set_cons_succ, List.map_cons, List.map_nil, List.any_cons, List.any_nil, List.getD_cons_zero, List.getD_cons_succ, true_or, or_true, true_and, and_true, Bool.and_true, Bool.true_and, Bool.or_false, Bool.false_or, Bool.not_false, Bool.not_true, Bool.or_true, Bool.true_or, decide_true, decide_false, wFor, wRng1, wRng2, wLc, wSeqI, items, wEnumX, wCallO, wNever, noOwn, List.all_cons, List.all_nil, wipeS, Bool.and_self, decide_eq_true_eq, atI0a, atI0b, atI0c, atI1b, atI1c, atI2c]
    exact tail "order" (by decide +kernel) rfl h
  · simp only [dEq_str sok_any sok_queue, aq, wSeq, wNext, wIfS, wSetF, wSet, into, wSetIx, wRet, wRetN, wDrop, wB, wBin, wUn, wCB, wCons, wNil, wVar, wC, wIf, wAnd, wOr, DL.wNot, wAndV, wOrV, wNotV, wTup, wLst, wSl, wNoPart, wPart, wChain, wUnp, wgTup, wgCons, wgNil, wName, wIsi, wListRg, wRg1, wRg2, wTupRg, wPuts, puts, Rz.sd, wConsH, wAppend, wExtend, ownL, dI, dI0, dIx, dInt, dAbs, dLen, dMax2, dMin2, dSum, dAll, dAny, dList, dTuple, dAdd, dNeg, dIsN, dNotN, PD.isN, dSl, look, looks, ok, Rz.pd, SD.pd, OD.pd, Rz.cold, Rz.cool, warm, pdsOf, frz, frzAll, leave, argOf, onceB, newBor, isBor, ty_non, ty_bl, ty_int, ty_str, ty_lst, ty_scr, ty_tup, ty_dct, isa, String.reduceBEq, beq_self_eq_true, Bool.false_and, Bool.and_false, Bool.not_true, Bool.or_self, wYes, wCall, backS_0, backS_1, backS_2, backS_3, backS_4, backS_o0, backS_o1, backS_o2, backS_o3, dEq_int, dEq_str, dNeX_int, dNeX_str, List.length_cons, List.length_nil, List.cons_append, List.nil_append, List.replicate, Nat.reduceAdd, Nat.reduceSub, List.getElem?_cons_zero, List.getElem?_cons_succ, Option.bind_some, List.set_cons_zero, List.set_cons_succ, List.map_cons, List.map_nil, List.any_cons, List.any_nil, List.getD_cons_zero, List.getD_cons_succ, true_or, or_true, true_and, and_true, Bool.and_true, Bool.true_and, Bool.or_false, Bool.false_or, Bool.not_false, Bool.not_true, Bool.or_true, Bool.true_or, decide_true, decide_false, wFor, wRng1, wRng2, wLc, wSeqI, items, wEnumX, wCallO, wNever, noOwn, List.all_cons, List.all_nil, wipeS, Bool.and_self, decide_eq_true_eq, atI0a, atI0b, atI0c, atI1b, atI1c, atI2c]
    exact tail "any" (by decide +kernel) rfl h
theorem W_up {ns : List Int} (hb : Bases ns) {i : Nat} (h : i < ns.length) : 2 * W ns i ≤ W ns (i + 1) ∧ W ns (i + 1) = W ns i * ns[i] := by
  have hi : ns[i]? = some ns[i] := List.getElem?_eq_getElem h
  obtain ⟨b1, b2⟩ := hb ns[i] (List.getElem_mem _)
  obtain ⟨w1, _⟩ := W_pos hb i (by omega)
  refine ⟨?_, W_succ hi⟩
  rw [W_succ hi]
  have := Int.mul_le_mul_of_nonneg_left b1 (by omega : 0 ≤ W ns i)
  omega
theorem W_mono {ns : List Int} (hb : Bases ns) {i : Nat} : ∀ k, i + k ≤ ns.length → W ns i ≤ W ns (i + k)
  | 0, _ => Int.le_refl _
  | k + 1, h => by
    have h1 := W_mono hb k (by omega : i + k ≤ ns.length)
    obtain ⟨h2, _⟩ := W_up hb (i := i + k) (by omega)
    obtain ⟨w1, _⟩ := W_pos hb (i + k) (by omega)
    have e : i + (k + 1) = i + k + 1 := by omega
    rw [e]
    omega
theorem W_lt {ns : List Int} (hb : Bases ns) {i : Nat} (h : i < ns.length) : W ns i < W ns ns.length := by
  obtain ⟨h2, _⟩ := W_up hb h
  obtain ⟨w1, _⟩ := W_pos hb i (by omega)
  have := W_mono hb (i := i + 1) (ns.length - (i + 1)) (by omega)
  have e : i + 1 + (ns.length - (i + 1)) = ns.length := by omega
  rw [e] at this
  omega
theorem W_at {ns : List Int} {i : Nat} (h : i ≤ ns.length) : atI ((wts ns 1).map PD.int) (i : Int) = some (.int (W ns i)) := by
  obtain ⟨x, h3, h4⟩ := atI_of (xs := (wts ns 1).map PD.int) (d := (i : Int)) (by omega) (by rw [List.length_map, wts_len]; omega)
  rw [h3]
  have e : (i : Int).toNat = i := by omega
  rw [e, List.getElem?_map, W_get h] at h4
  exact h4.symm
theorem W_end {ns : List Int} : atI ((wts ns 1).map PD.int) (-1) = some (.int (W ns ns.length)) := by
  have e : ixN ((wts ns 1).map PD.int).length (-1) = some ns.length := by
    unfold ixN
    rw [if_neg (by decide), List.length_map, wts_len, if_pos (by omega)]
    congr 1
    omega
  unfold atI
  rw [e]
  show ((wts ns 1).map PD.int)[ns.length]? = _
  rw [List.getElem?_map, W_get (Nat.le_refl _)]
  rfl
theorem seq_by {a b : Ws} {O : On} {ρ : Sl} (I : Sl → Prop) (h : ∀ N : Sl → Prop, (∀ ρ', I ρ' → N ρ') → a { O with nx := N } ρ) (h' : ∀ ρ', I ρ' → b O ρ') : wSeq a b O ρ := h (b O) h'
theorem backS_h0 {o : OD} {ρ as : Sl} : backS (.own o :: ρ) [.bor 0] as = as.getD 0 .emp :: ρ := by rw [backS_o0 (o := o) rfl]; rfl
theorem backS_h1 {o : OD} {ρ as : Sl} {a : PD} : backS (.own o :: ρ) [.bor 0, .dat a] as = as.getD 0 .emp :: ρ := by rw [backS_o1 (o := o) rfl]; rfl
theorem backS_h2 {o : OD} {ρ as : Sl} {a b : PD} : backS (.own o :: ρ) [.bor 0, .dat a, .dat b] as = as.getD 0 .emp :: ρ := by rw [backS_o2 (o := o) rfl]; rfl
theorem St_queue {n : Int} {ns : List Int} {i : Nat} (hb : Bases ns) (hi : i < ns.length) : St "queue" n ns i = decide (ns[i] < n) := by
  obtain ⟨u1, u2⟩ := W_up hb hi
  obtain ⟨w1, _⟩ := W_pos hb i (by omega)
  obtain ⟨b1, b2⟩ := hb ns[i] (List.getElem_mem _)
  have ne1 : ("queue" : Str) ≠ "any" := by decide +kernel
  have ne2 : ("queue" : Str) ≠ "order" := by decide +kernel
  unfold St Poss
  rw [if_neg ne1, if_neg (by omega), if_neg ne2]
  have e : W ns i - 1 + 1 = W ns i := by omega
  rw [e, u2, Int.mul_sub, Int.mul_one]
  by_cases h : ns[i] < n
  · have := Int.mul_le_mul_of_nonneg_left (by omega : ns[i] + 1 ≤ n) (by omega : 0 ≤ W ns i)
    rw [Int.mul_add, Int.mul_one] at this
    rw [decide_eq_true h, decide_eq_true (by omega), decide_eq_true (by omega : 1 < n)]
    rfl
  · have := Int.mul_le_mul_of_nonneg_left (by omega : n ≤ ns[i]) (by omega : 0 ≤ W ns i)
    rw [decide_eq_false h, decide_eq_false (by omega)]
    rfl
theorem St_other {w : Str} {n : Int} {ns : List Int} {i : Nat} (hw : w = "order" ∨ w = "any") (hb : Bases ns) (hi : i < ns.length) : St w n ns i = (decide (1 < W ns i) || decide (1 < n)) := by
  obtain ⟨u1, u2⟩ := W_up hb hi
  obtain ⟨w1, _⟩ := W_pos hb i (by omega)
  have e : decide (0 < W ns i - 1) = decide (1 < W ns i) := by
    by_cases h : 1 < W ns i
    · rw [decide_eq_true h, decide_eq_true (by omega)]
    · rw [decide_eq_false h, decide_eq_false (by omega)]
  unfold St Poss
  rcases hw with rfl | rfl
  · have ne1 : ("order" : Str) ≠ "any" := by decide +kernel
    rw [if_neg ne1, if_neg (by omega), if_pos rfl, e]
  · rw [if_pos rfl, decide_eq_true (by omega : W ns i - 1 ≠ W ns i - 1 + W ns (i + 1)), e]
    rfl
theorem sv_cases {w : Str} {n : Int} (h : Sv w n) : w = "queue" ∨ (w ≠ "queue" ∧ (w = "order" ∨ w = "any")) := by
  rcases h.1 with rfl | rfl | rfl
  · exact .inl rfl
  · exact .inr ⟨by decide +kernel, .inl rfl⟩
  · exact .inr ⟨by decide +kernel, .inr rfl⟩
theorem served_yes {w : Str} {n : Int} {ns : List Int} (hs : Sv w n) (hb : Bases ns) (h1 : 1 ≤ ns.length) (h : ∀ i, i + 1 < ns.length → St w n ns i = false) : Served w n ns = true := by
  unfold Served
  rcases sv_cases hs with rfl | ⟨hq, hw⟩
  · rw [if_pos rfl, Bool.or_eq_true]
    right
    rw [List.all_eq_true]
    intro b hbm
    obtain ⟨c, hc, rfl⟩ := List.mem_map.mp hbm
    obtain ⟨i, hi, e⟩ := List.mem_iff_getElem.mp hc
    rw [List.length_dropLast] at hi
    have := h i (by omega)
    rw [St_queue hb (by omega), decide_eq_false_iff_not] at this
    rw [List.getElem_dropLast] at e
    show decide (n ≤ c) = true
    exact decide_eq_true (by omega)
  · rw [if_neg hq]
    by_cases l1 : ns.length = 1
    · rw [decide_eq_true (by omega)]; rfl
    have h0 := h 0 (by omega)
    rw [St_other hw hb (by omega), Bool.or_eq_false_iff, decide_eq_false_iff_not, decide_eq_false_iff_not] at h0
    by_cases l2 : ns.length = 2
    · have := hs.2.1
      rw [decide_eq_true (by omega : n = 1), decide_eq_true (by omega : (ns.length : Int) = 2)]
      simp
    · have h3 := h 1 (by omega)
      obtain ⟨u1, u2⟩ := W_up hb (i := 0) (by omega)
      rw [W_zero] at u1
      rw [St_other hw hb (by omega), Bool.or_eq_false_iff, decide_eq_false_iff_not, decide_eq_false_iff_not] at h3
      have e : (0 + 1 : Nat) = 1 := rfl
      rw [e] at u1
      omega
theorem served_no {w : Str} {n : Int} {ns : List Int} {i : Nat} (hs : Sv w n) (hb : Bases ns) (hi : i + 1 < ns.length) (h : St w n ns i = true) : Served w n ns = false := by
  unfold Served
  rcases sv_cases hs with rfl | ⟨hq, hw⟩
  · rw [if_pos rfl, Bool.or_eq_false_iff]
    rw [St_queue hb (by omega), decide_eq_true_eq] at h
    obtain ⟨b1, b2⟩ := hb ns[i] (List.getElem_mem _)
    refine ⟨decide_eq_false (by omega), ?_⟩
    rw [List.all_eq_false]
    refine ⟨decide (n ≤ ns[i]), List.mem_map.mpr ⟨ns[i], ?_, rfl⟩, ?_⟩
    · exact List.mem_iff_getElem.mpr ⟨i, by rw [List.length_dropLast]; omega, List.getElem_dropLast ..⟩
    · show ¬ decide (n ≤ ns[i]) = true
      rw [decide_eq_true_eq]; omega
  · rw [if_neg hq, decide_eq_false (by omega : ¬ (ns.length : Int) = 1), Bool.false_or]
    rw [St_other hw hb (by omega), Bool.or_eq_true, decide_eq_true_eq, decide_eq_true_eq] at h
    by_cases n1 : n = 1
    · by_cases l2 : ns.length = 2
      · have i0 : i = 0 := by omega
        subst i0
        rw [W_zero] at h
        omega
      · rw [decide_eq_false (by omega : ¬ (ns.length : Int) = 2), Bool.and_false]
    · rw [decide_eq_false n1, Bool.false_and]
end Lk

set_option Elab.async false
set_option linter.all false
set_option maxRecDepth 100000
set_option maxHeartbeats 4000000
set_option exponentiation.threshold 3000
namespace Lk
open PySem L2 DL
/-- the law's own: can a pair be -/
def canB (w : Str) (n size x y d : Int) : Bool :=
  if decide (size < (if y > x then y else x)) || (decide (n = 1) && decide (d = 0)) then false
  else if w = "any" then decide (d + y - x ≠ 0)
  else if w = "order" then decide (1 ≤ d + y - x)
  else if n = 1 then decide (x = 0) && decide (y = 0)
  else decide (1 ≤ d + y - x) && decide (d + y - x ≤ n * d + n - 1)
theorem can_ok {cl : Nat → Addr} {w : Str} {n size x y d : Int} {Q : Rz → Sl → Prop} {Ξ : Xp} (hs : Sv w n) (hd : Sm d) (h : Q (.dat (.bl (canB w n size x y d))) [.dat (sv w n), .dat (.int size), .dat (.tup [.int x, .int y, .int d])]) :
    F__law_can_be cl [.dat (sv w n), .dat (.int size), .dat (.tup [.int x, .int y, .int d])] Q Ξ := by
  obtain ⟨hw, n1, n2⟩ := hs
  unfold F__law_can_be mkF
  refine ⟨pinnedD (xs := [sv w n, .int size, .tup [.int x, .int y, .int d]]), ?_⟩
  have z2 : (2 : Nat) ≤ sizeLine := sz (by decide)
  have z3 : (3 : Nat) ≤ sizeLine := sz (by decide)
  unfold canB at h
  have late : ∀ (b : Bool), b = (decide (size < (if y > x then y else x)) || (decide (n = 1) && decide (d = 0))) → (b = true → Q (.dat (.bl false)) [.dat (sv w n), .dat (.int size), .dat (.tup [.int x, .int y, .int d])]) := fun b e t => by
    rw [← e, t] at h
    exact h
  simp only [w__law_can_be, sv, z2, z3, wSeq, wNext, wIfS, wSetF, wSet, into, wSetIx, wRet, wRetN, wDrop, wB, wBin, wUn, wCB, wCons, wNil, wVar, wC, wIf, wAnd, wOr, DL.wNot, wAndV, wOrV, wNotV, wTup, wLst, wSl, wNoPart, wPart, wChain, wUnp, wgTup, wgCons, wgNil, wName, wIsi, wListRg, wRg1, wRg2, wTupRg, wPuts, puts, Rz.sd, wConsH, wAppend, wExtend, ownL, dI, dI0, dIx, dInt, dAbs, dLen, dMax2, dMin2, dSum, dAll, dAny, dList, dTuple, dAdd, dNeg, dIsN, dNotN, PD.isN, dSl, look, looks, ok, Rz.pd, SD.pd, OD.pd, Rz.cold, Rz.cool, warm, pdsOf, frz, frzAll, leave, argOf, onceB, newBor, isBor, ty_non, ty_bl, ty_int, ty_str, ty_lst, ty_scr, ty_tup, ty_dct, isa, String.reduceBEq, beq_self_eq_true, Bool.false_and, Bool.and_false, Bool.not_true, Bool.or_self, wYes, wCall, backS_0, backS_1, backS_2, backS_3, backS_4, backS_o0, backS_o1, backS_o2, backS_o3, dEq_int, dEq_str, dNeX_int, dNeX_str, List.length_cons, List.length_nil, List.cons_append, List.nil_append, List.replicate, Nat.reduceAdd, Nat.reduceSub, List.getElem?_cons_zero, List.getElem?_cons_succ, Option.bind_some, List.set_cons_zero, List.set_cons_succ, List.map_cons, List.map_nil, List.any_cons, List.any_nil, List.getD_cons_zero, List.getD_cons_succ, true_or, or_true, true_and, and_true, Bool.and_true, Bool.true_and, Bool.or_false, Bool.false_or, Bool.not_false, Bool.not_true, Bool.or_true, Bool.true_or, decide_true, decide_false, wFor, wRng1, wRng2, wLc, wSeqI, items, wEnumX, wCallO, wNever, noOwn, List.all_cons, List.all_nil, wipeS, Bool.and_self, decide_eq_true_eq, atI0a, atI0b, atI0c, atI1b, atI1c, atI2c, wZipX, seqP]
  by_cases m : size < (if y > x then y else x)
  · simp only [decide_eq_true m] at h ⊢
    exact h
  by_cases q1 : n = 1 ∧ d = 0
  · simp only [decide_eq_false m, decide_eq_true q1.1, decide_eq_true q1.2] at h ⊢
    exact h
  have q2 : (decide (n = 1) && decide (d = 0)) = false := by
    by_cases a : n = 1
    · rw [decide_eq_false fun b => q1 ⟨a, b⟩, Bool.and_false]
    · rw [decide_eq_false a, Bool.false_and]
  have fine : ∀ {A B : Prop}, B → (match decide (n = 1) with | true => (match decide (d = 0) with | true => A | false => B) | false => B) := fun {A B} b => by
    by_cases h1 : n = 1
    · have h2 : ¬ d = 0 := fun z => q1 ⟨h1, z⟩
      rw [decide_eq_true h1, decide_eq_false h2]; exact b
    · rw [decide_eq_false h1]; exact b
  rw [q2, decide_eq_false m] at h
  simp only [Bool.or_self] at h
  simp only [decide_eq_false m]
  refine fine ?_
  rcases hw with rfl | rfl | rfl
  · have ne1 : ("queue" : Str) ≠ "any" := by decide +kernel
    have ne2 : ("queue" : Str) ≠ "order" := by decide +kernel
    simp only [ne1, ne2, if_false, Bool.false_eq_true] at h
    simp only [dEq_str sok_queue sok_any, dEq_str sok_queue sok_order, qa, qo, wSeq, wNext, wIfS, wSetF, wSet, into, wSetIx, wRet, wRetN, wDrop, wB, wBin, wUn, wCB, wCons, wNil, wVar, wC, wIf, wAnd, wOr, DL.wNot, wAndV, wOrV, wNotV, wTup, wLst, wSl, wNoPart, wPart, wChain, wUnp, wgTup, wgCons, wgNil, wName, wIsi, wListRg, wRg1, wRg2, wTupRg, wPuts, puts, Rz.sd, wConsH, wAppend, wExtend, ownL, dI, dI0, dIx, dInt, dAbs, dLen, dMax2, dMin2, dSum, dAll, dAny, dList, dTuple, dAdd, dNeg, dIsN, dNotN, PD.isN, dSl, look, looks, ok, Rz.pd, SD.pd, OD.pd, Rz.cold, Rz.cool, warm, pdsOf, frz, frzAll, leave, argOf, onceB, newBor, isBor, ty_non, ty_bl, ty_int, ty_str, ty_lst, ty_scr, ty_tup, ty_dct, isa, String.reduceBEq, beq_self_eq_true, Bool.false_and, Bool.and_false, Bool.not_true, Bool.or_self, wYes, wCall, backS_0, backS_1, backS_2, backS_3, backS_4, backS_o0, backS_o1, backS_o2, backS_o3, dEq_int, dEq_str, dNeX_int, dNeX_str, List.length_cons, List.length_nil, List.cons_append, List.nil_append, List.replicate, Nat.reduceAdd, Nat.reduceSub, List.getElem?_cons_zero, List.getElem?_cons_succ, Option.bind_some, List.set_cons_zero, List.set_cons_succ, List.map_cons, List.map_nil, List.any_cons, List.any_nil, List.getD_cons_zero, List.getD_cons_succ, true_or, or_true, true_and, and_true, Bool.and_true, Bool.true_and, Bool.or_false, Bool.false_or, Bool.not_false, Bool.not_true, Bool.or_true, Bool.true_or, decide_true, decide_false, wFor, wRng1, wRng2, wLc, wSeqI, items, wEnumX, wCallO, wNever, noOwn, List.all_cons, List.all_nil, wipeS, Bool.and_self, decide_eq_true_eq, atI0a, atI0b, atI0c, atI1b, atI1c, atI2c, wZipX, seqP]
    by_cases hn : n = 1
    · rw [if_pos hn] at h
      simp only [decide_eq_true hn]
      by_cases hx : x = 0
      · simp only [decide_eq_true hx, Bool.true_and] at h ⊢; exact h
      · simp only [decide_eq_false hx, Bool.false_and] at h ⊢; exact h
    · rw [if_neg hn] at h
      simp only [decide_eq_false hn]
      by_cases hg : 1 ≤ d + y - x
      · simp only [decide_eq_true hg, Bool.true_and] at h ⊢
        exact ⟨mulX (sm_big (by omega)) hd, h⟩
      · simp only [decide_eq_false hg, Bool.false_and] at h ⊢
        exact h
  · have ne1 : ("order" : Str) ≠ "any" := by decide +kernel
    simp only [ne1, if_false, if_true, Bool.false_eq_true] at h
    simp only [dEq_str sok_order sok_any, dEq_str sok_order sok_order, oa, oo, wSeq, wNext, wIfS, wSetF, wSet, into, wSetIx, wRet, wRetN, wDrop, wB, wBin, wUn, wCB, wCons, wNil, wVar, wC, wIf, wAnd, wOr, DL.wNot, wAndV, wOrV, wNotV, wTup, wLst, wSl, wNoPart, wPart, wChain, wUnp, wgTup, wgCons, wgNil, wName, wIsi, wListRg, wRg1, wRg2, wTupRg, wPuts, puts, Rz.sd, wConsH, wAppend, wExtend, ownL, dI, dI0, dIx, dInt, dAbs, dLen, dMax2, dMin2, dSum, dAll, dAny, dList, dTuple, dAdd, dNeg, dIsN, dNotN, PD.isN, dSl, look, looks, ok, Rz.pd, SD.pd, OD.pd, Rz.cold, Rz.cool, warm, pdsOf, frz, frzAll, leave, argOf, onceB, newBor, isBor, ty_non, ty_bl, ty_int, ty_str, ty_lst, ty_scr, ty_tup, ty_dct, isa, String.reduceBEq, beq_self_eq_true, Bool.false_and, Bool.and_false, Bool.not_true, Bool.or_self, wYes, wCall, backS_0, backS_1, backS_2, backS_3, backS_4, backS_o0, backS_o1, backS_o2, backS_o3, dEq_int, dEq_str, dNeX_int, dNeX_str, List.length_cons, List.length_nil, List.cons_append, List.nil_append, List.replicate, Nat.reduceAdd, Nat.reduceSub, List.getElem?_cons_zero, List.getElem?_cons_succ, Option.bind_some, List.set_cons_zero, List.set_cons_succ, List.map_cons, List.map_nil, List.any_cons, List.any_nil, List.getD_cons_zero, List.getD_cons_succ, true_or, or_true, true_and, and_true, Bool.and_true, Bool.true_and, Bool.or_false, Bool.false_or, Bool.not_false, Bool.not_true, Bool.or_true, Bool.true_or, decide_true, decide_false, wFor, wRng1, wRng2, wLc, wSeqI, items, wEnumX, wCallO, wNever, noOwn, List.all_cons, List.all_nil, wipeS, Bool.and_self, decide_eq_true_eq, atI0a, atI0b, atI0c, atI1b, atI1c, atI2c, wZipX, seqP]
    exact h
  · simp only [if_false, if_true, Bool.false_eq_true] at h
    simp only [dEq_str sok_any sok_any, aa, wSeq, wNext, wIfS, wSetF, wSet, into, wSetIx, wRet, wRetN, wDrop, wB, wBin, wUn, wCB, wCons, wNil, wVar, wC, wIf, wAnd, wOr, DL.wNot, wAndV, wOrV, wNotV, wTup, wLst, wSl, wNoPart, wPart, wChain, wUnp, wgTup, wgCons, wgNil, wName, wIsi, wListRg, wRg1, wRg2, wTupRg, wPuts, puts, Rz.sd, wConsH, wAppend, wExtend, ownL, dI, dI0, dIx, dInt, dAbs, dLen, dMax2, dMin2, dSum, dAll, dAny, dList, dTuple, dAdd, dNeg, dIsN, dNotN, PD.isN, dSl, look, looks, ok, Rz.pd, SD.pd, OD.pd, Rz.cold, Rz.cool, warm, pdsOf, frz, frzAll, leave, argOf, onceB, newBor, isBor, ty_non, ty_bl, ty_int, ty_str, ty_lst, ty_scr, ty_tup, ty_dct, isa, String.reduceBEq, beq_self_eq_true, Bool.false_and, Bool.and_false, Bool.not_true, Bool.or_self, wYes, wCall, backS_0, backS_1, backS_2, backS_3, backS_4, backS_o0, backS_o1, backS_o2, backS_o3, dEq_int, dEq_str, dNeX_int, dNeX_str, List.length_cons, List.length_nil, List.cons_append, List.nil_append, List.replicate, Nat.reduceAdd, Nat.reduceSub, List.getElem?_cons_zero, List.getElem?_cons_succ, Option.bind_some, List.set_cons_zero, List.set_cons_succ, List.map_cons, List.map_nil, List.any_cons, List.any_nil, List.getD_cons_zero, List.getD_cons_succ, true_or, or_true, true_and, and_true, Bool.and_true, Bool.true_and, Bool.or_false, Bool.false_or, Bool.not_false, Bool.not_true, Bool.or_true, Bool.true_or, decide_true, decide_false, wFor, wRng1, wRng2, wLc, wSeqI, items, wEnumX, wCallO, wNever, noOwn, List.all_cons, List.all_nil, wipeS, Bool.and_self, decide_eq_true_eq, atI0a, atI0b, atI0c, atI1b, atI1c, atI2c, wZipX, seqP]
    exact h
/-- the lanes of a number, a figure for each stage -/
def figs : List Int → Int → Int → List Int
  | [], _, _ => []
  | b :: bs, p, k => (k / p % b) :: figs bs (p * b) k
/-- the device by figures: for each stage, the lengths of its lanes -/
def ownF : List Int → Int → List (List Int)
  | [], _ => []
  | b :: bs, p => ((List.range b.toNat).map fun (a : Nat) => (a : Int) * p) :: ownF bs (p * b)
theorem zip_wts : ∀ (ns : List Int) (p : Int), zipP (ns.map .int) ((wts ns p).map .int) = (ns.zip (wts ns p)).map fun q => .tup [.int q.1, .int q.2]
  | [], p => rfl
  | b :: bs, p => by
    show zipP (.int b :: bs.map .int) (.int p :: (wts bs (p * b)).map .int) = _
    rw [wts, List.zip_cons_cons, List.map_cons, ← zip_wts bs (p * b)]
    rfl
theorem figs_zip : ∀ (ns : List Int) (p k : Int), (ns.zip (wts ns p)).map (fun q => k / q.2 % q.1) = figs ns p k
  | [], _, _ => rfl
  | b :: bs, p, k => by rw [wts, List.zip_cons_cons, List.map_cons, figs_zip bs (p * b) k, figs]
theorem ownF_zip : ∀ (ns : List Int) (p : Int), (ns.zip (wts ns p)).map (fun q => (List.range q.1.toNat).map fun (a : Nat) => (a : Int) * q.2) = ownF ns p
  | [], _ => rfl
  | b :: bs, p => by rw [wts, List.zip_cons_cons, List.map_cons, ownF_zip bs (p * b), ownF]
theorem wts_all : ∀ (ns : List Int) (p : Int), Bases ns → 1 ≤ p → ∀ q ∈ ns.zip (wts ns p), 2 ≤ q.1 ∧ q.1 ≤ 4 ∧ 1 ≤ q.2
  | [], _, _, _, q, h => nomatch h
  | b :: bs, p, hb, hp, q, h => by
    obtain ⟨b1, b2⟩ := hb b List.mem_cons_self
    rw [wts, List.zip_cons_cons] at h
    rcases List.mem_cons.mp h with e | h
    · subst e; exact ⟨b1, b2, hp⟩
    · refine wts_all bs (p * b) (fun c hc => hb c (List.mem_cons_of_mem _ hc)) ?_ q h
      have := Int.mul_le_mul hp b1 (by omega) (by omega)
      omega
theorem wts_max : ∀ (ns : List Int) (p m : Int), Bases ns → 1 ≤ p → (∀ w ∈ wts ns p, w ≤ m) → ∀ q ∈ ns.zip (wts ns p), q.2 ≤ m := fun ns p m hb hp h q hq => h q.2 (List.of_mem_zip hq).2
theorem compL_same {vs : List Nat} {wg : Wg} {wt : Wt} {we : We} {g : PD → PD} {ρ : Sl} {Q : List PD → Sl → Prop} {ds : List PD} (hz : ds.length < 100000)
    (h : ∀ d ∈ ds, ∀ (acc : List PD) (N : List PD → Sl → Prop), acc.length < sizeLine → N (acc ++ [g d]) ρ → wg d ρ fun ρ' => wt ρ' fun b ρ2 => match b with
      | true => we ρ2 fun r ρ3 => warm r ρ3 ∧ frz [r.cool] ρ3 fun es ρ4 => match es with
        | [y] => acc.length < sizeLine ∧ N (acc ++ [y]) (wipeS ρ4 vs)
        | _ => False
      | false => N acc (wipeS ρ2 vs)) (hQ : Q (ds.map g) ρ) : compL vs wg wt we ds [] Q ρ := by
  refine compL_upto (fun k acc ρ' => ρ' = ρ ∧ acc = (ds.take k).map g) ds 0 [] ρ ⟨rfl, rfl⟩ (fun j d acc ρ' N hj hI hN => ?_) (fun acc ρ' hI => ?_)
  · obtain ⟨rfl, rfl⟩ := hI
    have hjl := (List.getElem?_eq_some_iff.mp hj).1
    refine h d (List.mem_of_getElem? hj) _ N (by rw [List.length_map, List.length_take]; exact sz' (by omega)) (hN _ _ ⟨rfl, ?_⟩)
    rw [Nat.zero_add, List.take_add_one, hj, List.map_append]
    rfl
  · obtain ⟨rfl, rfl⟩ := hI
    rw [Nat.zero_add, List.take_length]
    exact hQ
/-- the second of a pair of ints, the first -/
def at2 : PD → Int × Int
  | .tup [.int a, .int b] => (a, b)
  | _ => (0, 0)
theorem zip_len {ns : List Int} {p : Int} : (ns.zip (wts ns p)).length ≤ ns.length := by rw [List.length_zip]; exact Nat.min_le_left _ _
theorem figures_ok {cl : Nat → Addr} {ns : List Int} {k : Int} {Q : Rz → Sl → Prop} {Ξ : Xp} (hb : Bases ns) (hl : ns.length ≤ 40) (hm : ∀ w ∈ wts ns 1, w < 2 ^ 100) (h : Q (.dat (.tup ((figs ns 1 k).map .int))) [.dat (bs ns), .dat (.int k)]) : F__law_figures cl [.dat (bs ns), .dat (.int k)] Q Ξ := by
  unfold F__law_figures mkF
  refine ⟨pinnedD (xs := [bs ns, .int k]), ?_⟩
  simp only [w__law_figures, bs, wSeq, wNext, wIfS, wSetF, wSet, into, wSetIx, wRet, wRetN, wDrop, wB, wBin, wUn, wCB, wCons, wNil, wVar, wC, wIf, wAnd, wOr, DL.wNot, wAndV, wOrV, wNotV, wTup, wLst, wSl, wNoPart, wPart, wChain, wUnp, wgTup, wgCons, wgNil, wName, wIsi, wListRg, wRg1, wRg2, wTupRg, wPuts, puts, Rz.sd, wConsH, wAppend, wExtend, ownL, dI, dI0, dIx, dInt, dAbs, dLen, dMax2, dMin2, dSum, dAll, dAny, dList, dTuple, dAdd, dNeg, dIsN, dNotN, PD.isN, dSl, look, looks, ok, Rz.pd, SD.pd, OD.pd, Rz.cold, Rz.cool, warm, pdsOf, frz, frzAll, leave, argOf, onceB, newBor, isBor, ty_non, ty_bl, ty_int, ty_str, ty_lst, ty_scr, ty_tup, ty_dct, isa, String.reduceBEq, beq_self_eq_true, Bool.false_and, Bool.and_false, Bool.not_true, Bool.or_self, wYes, wCall, backS_0, backS_1, backS_2, backS_3, backS_4, backS_o0, backS_o1, backS_o2, backS_o3, dEq_int, dEq_str, dNeX_int, dNeX_str, List.length_cons, List.length_nil, List.cons_append, List.nil_append, List.replicate, Nat.reduceAdd, Nat.reduceSub, List.getElem?_cons_zero, List.getElem?_cons_succ, Option.bind_some, List.set_cons_zero, List.set_cons_succ, List.map_cons, List.map_nil, List.any_cons, List.any_nil, List.getD_cons_zero, List.getD_cons_succ, true_or, or_true, true_and, and_true, Bool.and_true, Bool.true_and, Bool.or_false, Bool.false_or, Bool.not_false, Bool.not_true, Bool.or_true, Bool.true_or, decide_true, decide_false, wFor, wRng1, wRng2, wLc, wSeqI, items, wEnumX, wCallO, wNever, noOwn, List.all_cons, List.all_nil, wipeS, Bool.and_self, decide_eq_true_eq, atI0a, atI0b, atI0c, atI1b, atI1c, atI2c, wZipX, seqP]
  simp only [e_law_weights]
  refine weights_ok hb (by omega) ?_
  simp only [wSeq, wNext, wIfS, wSetF, wSet, into, wSetIx, wRet, wRetN, wDrop, wB, wBin, wUn, wCB, wCons, wNil, wVar, wC, wIf, wAnd, wOr, DL.wNot, wAndV, wOrV, wNotV, wTup, wLst, wSl, wNoPart, wPart, wChain, wUnp, wgTup, wgCons, wgNil, wName, wIsi, wListRg, wRg1, wRg2, wTupRg, wPuts, puts, Rz.sd, wConsH, wAppend, wExtend, ownL, dI, dI0, dIx, dInt, dAbs, dLen, dMax2, dMin2, dSum, dAll, dAny, dList, dTuple, dAdd, dNeg, dIsN, dNotN, PD.isN, dSl, look, looks, ok, Rz.pd, SD.pd, OD.pd, Rz.cold, Rz.cool, warm, pdsOf, frz, frzAll, leave, argOf, onceB, newBor, isBor, ty_non, ty_bl, ty_int, ty_str, ty_lst, ty_scr, ty_tup, ty_dct, isa, String.reduceBEq, beq_self_eq_true, Bool.false_and, Bool.and_false, Bool.not_true, Bool.or_self, wYes, wCall, backS_0, backS_1, backS_2, backS_3, backS_4, backS_o0, backS_o1, backS_o2, backS_o3, dEq_int, dEq_str, dNeX_int, dNeX_str, List.length_cons, List.length_nil, List.cons_append, List.nil_append, List.replicate, Nat.reduceAdd, Nat.reduceSub, List.getElem?_cons_zero, List.getElem?_cons_succ, Option.bind_some, List.set_cons_zero, List.set_cons_succ, List.map_cons, List.map_nil, List.any_cons, List.any_nil, List.getD_cons_zero, List.getD_cons_succ, true_or, or_true, true_and, and_true, Bool.and_true, Bool.true_and, Bool.or_false, Bool.false_or, Bool.not_false, Bool.not_true, Bool.or_true, Bool.true_or, decide_true, decide_false, wFor, wRng1, wRng2, wLc, wSeqI, items, wEnumX, wCallO, wNever, noOwn, List.all_cons, List.all_nil, wipeS, Bool.and_self, decide_eq_true_eq, atI0a, atI0b, atI0c, atI1b, atI1c, atI2c, wZipX, seqP]
  rw [zip_wts]
  have z2 : (2 : Nat) ≤ sizeLine := sz (by decide)
  have zl := zip_len (ns := ns) (p := 1)
  refine ⟨.inr ⟨_, rfl⟩, ?_⟩
  refine compL_same (g := fun d => .int (k / (at2 d).2 % (at2 d).1)) (by rw [List.length_map]; omega) (fun d hd acc N hacc hN => ?_) ?_
  · obtain ⟨q, hq, rfl⟩ := List.mem_map.mp hd
    obtain ⟨b1, b2, b3⟩ := wts_all ns 1 hb (by decide) q hq
    have b4 := hm q.2 (List.of_mem_zip hq).2
    have c1 : CDivW k q.2 := divX (by omega) (sm_big (by omega))
    have c2 : ∀ x, CPos x q.1 := fun x => by unfold CPos; omega
    simp only [z2, c1, c2, wSeq, wNext, wIfS, wSetF, wSet, into, wSetIx, wRet, wRetN, wDrop, wB, wBin, wUn, wCB, wCons, wNil, wVar, wC, wIf, wAnd, wOr, DL.wNot, wAndV, wOrV, wNotV, wTup, wLst, wSl, wNoPart, wPart, wChain, wUnp, wgTup, wgCons, wgNil, wName, wIsi, wListRg, wRg1, wRg2, wTupRg, wPuts, puts, Rz.sd, wConsH, wAppend, wExtend, ownL, dI, dI0, dIx, dInt, dAbs, dLen, dMax2, dMin2, dSum, dAll, dAny, dList, dTuple, dAdd, dNeg, dIsN, dNotN, PD.isN, dSl, look, looks, ok, Rz.pd, SD.pd, OD.pd, Rz.cold, Rz.cool, warm, pdsOf, frz, frzAll, leave, argOf, onceB, newBor, isBor, ty_non, ty_bl, ty_int, ty_str, ty_lst, ty_scr, ty_tup, ty_dct, isa, String.reduceBEq, beq_self_eq_true, Bool.false_and, Bool.and_false, Bool.not_true, Bool.or_self, wYes, wCall, backS_0, backS_1, backS_2, backS_3, backS_4, backS_o0, backS_o1, backS_o2, backS_o3, dEq_int, dEq_str, dNeX_int, dNeX_str, List.length_cons, List.length_nil, List.cons_append, List.nil_append, List.replicate, Nat.reduceAdd, Nat.reduceSub, List.getElem?_cons_zero, List.getElem?_cons_succ, Option.bind_some, List.set_cons_zero, List.set_cons_succ, List.map_cons, List.map_nil, List.any_cons, List.any_nil, List.getD_cons_zero, List.getD_cons_succ, true_or, or_true, true_and, and_true, Bool.and_true, Bool.true_and, Bool.or_false, Bool.false_or, Bool.not_false, Bool.not_true, Bool.or_true, Bool.true_or, decide_true, decide_false, wFor, wRng1, wRng2, wLc, wSeqI, items, wEnumX, wCallO, wNever, noOwn, List.all_cons, List.all_nil, wipeS, Bool.and_self, decide_eq_true_eq, atI0a, atI0b, atI0c, atI1b, atI1c, atI2c, wZipX, seqP]
    exact ⟨hacc, hN⟩
  · have e : ((ns.zip (wts ns 1)).map fun q => PD.tup [.int q.1, .int q.2]).map (fun d => PD.int (k / (at2 d).2 % (at2 d).1)) = (figs ns 1 k).map .int := by
      rw [← figs_zip, List.map_map, List.map_map]
      rfl
    rw [e]
    simp only [restore, wSeq, wNext, wIfS, wSetF, wSet, into, wSetIx, wRet, wRetN, wDrop, wB, wBin, wUn, wCB, wCons, wNil, wVar, wC, wIf, wAnd, wOr, DL.wNot, wAndV, wOrV, wNotV, wTup, wLst, wSl, wNoPart, wPart, wChain, wUnp, wgTup, wgCons, wgNil, wName, wIsi, wListRg, wRg1, wRg2, wTupRg, wPuts, puts, Rz.sd, wConsH, wAppend, wExtend, ownL, dI, dI0, dIx, dInt, dAbs, dLen, dMax2, dMin2, dSum, dAll, dAny, dList, dTuple, dAdd, dNeg, dIsN, dNotN, PD.isN, dSl, look, looks, ok, Rz.pd, SD.pd, OD.pd, Rz.cold, Rz.cool, warm, pdsOf, frz, frzAll, leave, argOf, onceB, newBor, isBor, ty_non, ty_bl, ty_int, ty_str, ty_lst, ty_scr, ty_tup, ty_dct, isa, String.reduceBEq, beq_self_eq_true, Bool.false_and, Bool.and_false, Bool.not_true, Bool.or_self, wYes, wCall, backS_0, backS_1, backS_2, backS_3, backS_4, backS_o0, backS_o1, backS_o2, backS_o3, dEq_int, dEq_str, dNeX_int, dNeX_str, List.length_cons, List.length_nil, List.cons_append, List.nil_append, List.replicate, Nat.reduceAdd, Nat.reduceSub, List.getElem?_cons_zero, List.getElem?_cons_succ, Option.bind_some, List.set_cons_zero, List.set_cons_succ, List.map_cons, List.map_nil, List.any_cons, List.any_nil, List.getD_cons_zero, List.getD_cons_succ, true_or, or_true, true_and, and_true, Bool.and_true, Bool.true_and, Bool.or_false, Bool.false_or, Bool.not_false, Bool.not_true, Bool.or_true, Bool.true_or, decide_true, decide_false, wFor, wRng1, wRng2, wLc, wSeqI, items, wEnumX, wCallO, wNever, noOwn, List.all_cons, List.all_nil, wipeS, Bool.and_self, decide_eq_true_eq, atI0a, atI0b, atI0c, atI1b, atI1c, atI2c, wZipX, seqP]
    exact ⟨.inr ⟨_, rfl⟩, h⟩
theorem own_ok {cl : Nat → Addr} {ns : List Int} {Q : Rz → Sl → Prop} {Ξ : Xp} (hb : Bases ns) (hl : ns.length ≤ 40) (hm : ∀ w ∈ wts ns 1, w < 2 ^ 100) (h : Q (.own (.lst ((ownF ns 1).map fun r => .lst (r.map .int)))) [.dat (bs ns)]) : F__law_figures_own cl [.dat (bs ns)] Q Ξ := by
  unfold F__law_figures_own mkF
  refine ⟨pinnedD (xs := [bs ns]), ?_⟩
  simp only [w__law_figures_own, bs, wSeq, wNext, wIfS, wSetF, wSet, into, wSetIx, wRet, wRetN, wDrop, wB, wBin, wUn, wCB, wCons, wNil, wVar, wC, wIf, wAnd, wOr, DL.wNot, wAndV, wOrV, wNotV, wTup, wLst, wSl, wNoPart, wPart, wChain, wUnp, wgTup, wgCons, wgNil, wName, wIsi, wListRg, wRg1, wRg2, wTupRg, wPuts, puts, Rz.sd, wConsH, wAppend, wExtend, ownL, dI, dI0, dIx, dInt, dAbs, dLen, dMax2, dMin2, dSum, dAll, dAny, dList, dTuple, dAdd, dNeg, dIsN, dNotN, PD.isN, dSl, look, looks, ok, Rz.pd, SD.pd, OD.pd, Rz.cold, Rz.cool, warm, pdsOf, frz, frzAll, leave, argOf, onceB, newBor, isBor, ty_non, ty_bl, ty_int, ty_str, ty_lst, ty_scr, ty_tup, ty_dct, isa, String.reduceBEq, beq_self_eq_true, Bool.false_and, Bool.and_false, Bool.not_true, Bool.or_self, wYes, wCall, backS_0, backS_1, backS_2, backS_3, backS_4, backS_o0, backS_o1, backS_o2, backS_o3, dEq_int, dEq_str, dNeX_int, dNeX_str, List.length_cons, List.length_nil, List.cons_append, List.nil_append, List.replicate, Nat.reduceAdd, Nat.reduceSub, List.getElem?_cons_zero, List.getElem?_cons_succ, Option.bind_some, List.set_cons_zero, List.set_cons_succ, List.map_cons, List.map_nil, List.any_cons, List.any_nil, List.getD_cons_zero, List.getD_cons_succ, true_or, or_true, true_and, and_true, Bool.and_true, Bool.true_and, Bool.or_false, Bool.false_or, Bool.not_false, Bool.not_true, Bool.or_true, Bool.true_or, decide_true, decide_false, wFor, wRng1, wRng2, wLc, wSeqI, items, wEnumX, wCallO, wNever, noOwn, List.all_cons, List.all_nil, wipeS, Bool.and_self, decide_eq_true_eq, atI0a, atI0b, atI0c, atI1b, atI1c, atI2c, wZipX, seqP]
  simp only [e_law_weights]
  refine weights_ok hb (by omega) ?_
  simp only [wSeq, wNext, wIfS, wSetF, wSet, into, wSetIx, wRet, wRetN, wDrop, wB, wBin, wUn, wCB, wCons, wNil, wVar, wC, wIf, wAnd, wOr, DL.wNot, wAndV, wOrV, wNotV, wTup, wLst, wSl, wNoPart, wPart, wChain, wUnp, wgTup, wgCons, wgNil, wName, wIsi, wListRg, wRg1, wRg2, wTupRg, wPuts, puts, Rz.sd, wConsH, wAppend, wExtend, ownL, dI, dI0, dIx, dInt, dAbs, dLen, dMax2, dMin2, dSum, dAll, dAny, dList, dTuple, dAdd, dNeg, dIsN, dNotN, PD.isN, dSl, look, looks, ok, Rz.pd, SD.pd, OD.pd, Rz.cold, Rz.cool, warm, pdsOf, frz, frzAll, leave, argOf, onceB, newBor, isBor, ty_non, ty_bl, ty_int, ty_str, ty_lst, ty_scr, ty_tup, ty_dct, isa, String.reduceBEq, beq_self_eq_true, Bool.false_and, Bool.and_false, Bool.not_true, Bool.or_self, wYes, wCall, backS_0, backS_1, backS_2, backS_3, backS_4, backS_o0, backS_o1, backS_o2, backS_o3, dEq_int, dEq_str, dNeX_int, dNeX_str, List.length_cons, List.length_nil, List.cons_append, List.nil_append, List.replicate, Nat.reduceAdd, Nat.reduceSub, List.getElem?_cons_zero, List.getElem?_cons_succ, Option.bind_some, List.set_cons_zero, List.set_cons_succ, List.map_cons, List.map_nil, List.any_cons, List.any_nil, List.getD_cons_zero, List.getD_cons_succ, true_or, or_true, true_and, and_true, Bool.and_true, Bool.true_and, Bool.or_false, Bool.false_or, Bool.not_false, Bool.not_true, Bool.or_true, Bool.true_or, decide_true, decide_false, wFor, wRng1, wRng2, wLc, wSeqI, items, wEnumX, wCallO, wNever, noOwn, List.all_cons, List.all_nil, wipeS, Bool.and_self, decide_eq_true_eq, atI0a, atI0b, atI0c, atI1b, atI1c, atI2c, wZipX, seqP]
  rw [zip_wts]
  have z2 : (2 : Nat) ≤ sizeLine := sz (by decide)
  have zl := zip_len (ns := ns) (p := 1)
  refine ⟨.inr ⟨_, rfl⟩, ?_⟩
  refine compL_same (g := fun d => .lst (((List.range (at2 d).1.toNat).map fun (a : Nat) => (a : Int) * (at2 d).2).map .int)) (by rw [List.length_map]; omega) (fun d hd acc N hacc hN => ?_) ?_
  · obtain ⟨q, hq, rfl⟩ := List.mem_map.mp hd
    obtain ⟨b1, b2, b3⟩ := wts_all ns 1 hb (by decide) q hq
    have b4 := hm q.2 (List.of_mem_zip hq).2
    simp only [z2, wSeq, wNext, wIfS, wSetF, wSet, into, wSetIx, wRet, wRetN, wDrop, wB, wBin, wUn, wCB, wCons, wNil, wVar, wC, wIf, wAnd, wOr, DL.wNot, wAndV, wOrV, wNotV, wTup, wLst, wSl, wNoPart, wPart, wChain, wUnp, wgTup, wgCons, wgNil, wName, wIsi, wListRg, wRg1, wRg2, wTupRg, wPuts, puts, Rz.sd, wConsH, wAppend, wExtend, ownL, dI, dI0, dIx, dInt, dAbs, dLen, dMax2, dMin2, dSum, dAll, dAny, dList, dTuple, dAdd, dNeg, dIsN, dNotN, PD.isN, dSl, look, looks, ok, Rz.pd, SD.pd, OD.pd, Rz.cold, Rz.cool, warm, pdsOf, frz, frzAll, leave, argOf, onceB, newBor, isBor, ty_non, ty_bl, ty_int, ty_str, ty_lst, ty_scr, ty_tup, ty_dct, isa, String.reduceBEq, beq_self_eq_true, Bool.false_and, Bool.and_false, Bool.not_true, Bool.or_self, wYes, wCall, backS_0, backS_1, backS_2, backS_3, backS_4, backS_o0, backS_o1, backS_o2, backS_o3, dEq_int, dEq_str, dNeX_int, dNeX_str, List.length_cons, List.length_nil, List.cons_append, List.nil_append, List.replicate, Nat.reduceAdd, Nat.reduceSub, List.getElem?_cons_zero, List.getElem?_cons_succ, Option.bind_some, List.set_cons_zero, List.set_cons_succ, List.map_cons, List.map_nil, List.any_cons, List.any_nil, List.getD_cons_zero, List.getD_cons_succ, true_or, or_true, true_and, and_true, Bool.and_true, Bool.true_and, Bool.or_false, Bool.false_or, Bool.not_false, Bool.not_true, Bool.or_true, Bool.true_or, decide_true, decide_false, wFor, wRng1, wRng2, wLc, wSeqI, items, wEnumX, wCallO, wNever, noOwn, List.all_cons, List.all_nil, wipeS, Bool.and_self, decide_eq_true_eq, atI0a, atI0b, atI0c, atI1b, atI1c, atI2c, wZipX, seqP]
    refine ⟨⟨by omega, by omega⟩, ?_⟩
    have hlr : (rgP 0 q.1.toNat).length = q.1.toNat := by unfold rgP; rw [List.length_map, List.length_range]
    refine compL_same (g := fun d => match d with | .int a => .int (a * q.2) | _ => .non) (by rw [hlr]; omega) (fun d hd acc N hacc hN => ?_) ?_
    · unfold rgP at hd
      obtain ⟨a, ha, rfl⟩ := List.mem_map.mp hd
      have := List.mem_range.mp ha
      simp only [wSeq, wNext, wIfS, wSetF, wSet, into, wSetIx, wRet, wRetN, wDrop, wB, wBin, wUn, wCB, wCons, wNil, wVar, wC, wIf, wAnd, wOr, DL.wNot, wAndV, wOrV, wNotV, wTup, wLst, wSl, wNoPart, wPart, wChain, wUnp, wgTup, wgCons, wgNil, wName, wIsi, wListRg, wRg1, wRg2, wTupRg, wPuts, puts, Rz.sd, wConsH, wAppend, wExtend, ownL, dI, dI0, dIx, dInt, dAbs, dLen, dMax2, dMin2, dSum, dAll, dAny, dList, dTuple, dAdd, dNeg, dIsN, dNotN, PD.isN, dSl, look, looks, ok, Rz.pd, SD.pd, OD.pd, Rz.cold, Rz.cool, warm, pdsOf, frz, frzAll, leave, argOf, onceB, newBor, isBor, ty_non, ty_bl, ty_int, ty_str, ty_lst, ty_scr, ty_tup, ty_dct, isa, String.reduceBEq, beq_self_eq_true, Bool.false_and, Bool.and_false, Bool.not_true, Bool.or_self, wYes, wCall, backS_0, backS_1, backS_2, backS_3, backS_4, backS_o0, backS_o1, backS_o2, backS_o3, dEq_int, dEq_str, dNeX_int, dNeX_str, List.length_cons, List.length_nil, List.cons_append, List.nil_append, List.replicate, Nat.reduceAdd, Nat.reduceSub, List.getElem?_cons_zero, List.getElem?_cons_succ, Option.bind_some, List.set_cons_zero, List.set_cons_succ, List.map_cons, List.map_nil, List.any_cons, List.any_nil, List.getD_cons_zero, List.getD_cons_succ, true_or, or_true, true_and, and_true, Bool.and_true, Bool.true_and, Bool.or_false, Bool.false_or, Bool.not_false, Bool.not_true, Bool.or_true, Bool.true_or, decide_true, decide_false, wFor, wRng1, wRng2, wLc, wSeqI, items, wEnumX, wCallO, wNever, noOwn, List.all_cons, List.all_nil, wipeS, Bool.and_self, decide_eq_true_eq, atI0a, atI0b, atI0c, atI1b, atI1c, atI2c, wZipX, seqP]
      exact ⟨mulX (sm_big (by omega)) (sm_big (by omega)), hacc, hN⟩
    · have e : (rgP 0 q.1.toNat).map (fun d => match d with | .int a => PD.int (a * q.2) | _ => .non) = ((List.range q.1.toNat).map fun (a : Nat) => (a : Int) * q.2).map .int := by
        unfold rgP
        rw [List.map_map, List.map_map]
        refine List.map_congr_left fun a ha => ?_
        show PD.int ((0 + (a : Int)) * q.2) = PD.int ((a : Int) * q.2)
        rw [Int.zero_add]
      rw [e]
      simp only [restore, wSeq, wNext, wIfS, wSetF, wSet, into, wSetIx, wRet, wRetN, wDrop, wB, wBin, wUn, wCB, wCons, wNil, wVar, wC, wIf, wAnd, wOr, DL.wNot, wAndV, wOrV, wNotV, wTup, wLst, wSl, wNoPart, wPart, wChain, wUnp, wgTup, wgCons, wgNil, wName, wIsi, wListRg, wRg1, wRg2, wTupRg, wPuts, puts, Rz.sd, wConsH, wAppend, wExtend, ownL, dI, dI0, dIx, dInt, dAbs, dLen, dMax2, dMin2, dSum, dAll, dAny, dList, dTuple, dAdd, dNeg, dIsN, dNotN, PD.isN, dSl, look, looks, ok, Rz.pd, SD.pd, OD.pd, Rz.cold, Rz.cool, warm, pdsOf, frz, frzAll, leave, argOf, onceB, newBor, isBor, ty_non, ty_bl, ty_int, ty_str, ty_lst, ty_scr, ty_tup, ty_dct, isa, String.reduceBEq, beq_self_eq_true, Bool.false_and, Bool.and_false, Bool.not_true, Bool.or_self, wYes, wCall, backS_0, backS_1, backS_2, backS_3, backS_4, backS_o0, backS_o1, backS_o2, backS_o3, dEq_int, dEq_str, dNeX_int, dNeX_str, List.length_cons, List.length_nil, List.cons_append, List.nil_append, List.replicate, Nat.reduceAdd, Nat.reduceSub, List.getElem?_cons_zero, List.getElem?_cons_succ, Option.bind_some, List.set_cons_zero, List.set_cons_succ, List.map_cons, List.map_nil, List.any_cons, List.any_nil, List.getD_cons_zero, List.getD_cons_succ, true_or, or_true, true_and, and_true, Bool.and_true, Bool.true_and, Bool.or_false, Bool.false_or, Bool.not_false, Bool.not_true, Bool.or_true, Bool.true_or, decide_true, decide_false, wFor, wRng1, wRng2, wLc, wSeqI, items, wEnumX, wCallO, wNever, noOwn, List.all_cons, List.all_nil, wipeS, Bool.and_self, decide_eq_true_eq, atI0a, atI0b, atI0c, atI1b, atI1c, atI2c, wZipX, seqP]
      exact ⟨.inr ⟨_, rfl⟩, hacc, hN⟩
  · have e : ((ns.zip (wts ns 1)).map fun q => PD.tup [.int q.1, .int q.2]).map (fun d => PD.lst (((List.range (at2 d).1.toNat).map fun (a : Nat) => (a : Int) * (at2 d).2).map .int)) = (ownF ns 1).map fun r => PD.lst (r.map .int) := by
      rw [← ownF_zip, List.map_map, List.map_map]
      rfl
    rw [e]
    simp only [restore, wSeq, wNext, wIfS, wSetF, wSet, into, wSetIx, wRet, wRetN, wDrop, wB, wBin, wUn, wCB, wCons, wNil, wVar, wC, wIf, wAnd, wOr, DL.wNot, wAndV, wOrV, wNotV, wTup, wLst, wSl, wNoPart, wPart, wChain, wUnp, wgTup, wgCons, wgNil, wName, wIsi, wListRg, wRg1, wRg2, wTupRg, wPuts, puts, Rz.sd, wConsH, wAppend, wExtend, ownL, dI, dI0, dIx, dInt, dAbs, dLen, dMax2, dMin2, dSum, dAll, dAny, dList, dTuple, dAdd, dNeg, dIsN, dNotN, PD.isN, dSl, look, looks, ok, Rz.pd, SD.pd, OD.pd, Rz.cold, Rz.cool, warm, pdsOf, frz, frzAll, leave, argOf, onceB, newBor, isBor, ty_non, ty_bl, ty_int, ty_str, ty_lst, ty_scr, ty_tup, ty_dct, isa, String.reduceBEq, beq_self_eq_true, Bool.false_and, Bool.and_false, Bool.not_true, Bool.or_self, wYes, wCall, backS_0, backS_1, backS_2, backS_3, backS_4, backS_o0, backS_o1, backS_o2, backS_o3, dEq_int, dEq_str, dNeX_int, dNeX_str, List.length_cons, List.length_nil, List.cons_append, List.nil_append, List.replicate, Nat.reduceAdd, Nat.reduceSub, List.getElem?_cons_zero, List.getElem?_cons_succ, Option.bind_some, List.set_cons_zero, List.set_cons_succ, List.map_cons, List.map_nil, List.any_cons, List.any_nil, List.getD_cons_zero, List.getD_cons_succ, true_or, or_true, true_and, and_true, Bool.and_true, Bool.true_and, Bool.or_false, Bool.false_or, Bool.not_false, Bool.not_true, Bool.or_true, Bool.true_or, decide_true, decide_false, wFor, wRng1, wRng2, wLc, wSeqI, items, wEnumX, wCallO, wNever, noOwn, List.all_cons, List.all_nil, wipeS, Bool.and_self, decide_eq_true_eq, atI0a, atI0b, atI0c, atI1b, atI1c, atI2c, wZipX, seqP]
    exact h
end Lk

set_option Elab.async false
set_option linter.all false
set_option maxRecDepth 100000
set_option maxHeartbeats 4000000
set_option exponentiation.threshold 3000
namespace Lk
open PySem L2 DL
theorem seq_to {a b : Ws} {O : On} {ρ ρ' : Sl} (h : ∀ N : Sl → Prop, N ρ' → a { O with nx := N } ρ) (h' : b O ρ') : wSeq a b O ρ := h (b O) h'
/-- how much lies ahead, stage by stage -/
def ah : List (List Int) → List Int → Int → List Int
  | ls :: dev, k :: row, t => t :: ah dev row (t + ls.getD k.toNat 0)
  | _, _, _ => []
abbrev lsP (r : List Int) : PD := .lst (r.map .int)
abbrev devP (dev : List (List Int)) : PD := .lst (dev.map lsP)
abbrev rowP (r : List Int) : PD := .tup (r.map .int)
def Fits (dev : List (List Int)) (row : List Int) : Prop := ∀ q ∈ dev.zip row, 0 ≤ q.2 ∧ q.2 < q.1.length
theorem aheads_loop {D R : PD} : ∀ (dev : List (List Int)) (row : List Int) (acc : List Int) (t : Int) (s4 s5 : SD) (O : On), Fits dev row → acc.length + dev.length ≤ 1000 →
    (∀ t s4 s5, O.nx [.dat D, .dat R, .own (.lst ((acc ++ ah dev row t0).map .int)), .dat (.int t), s4, s5]) → t = t0 →
    forL (wgTup 2 (wgCons (wName 4) (wgCons (wName 5) wgNil))) (wSeq (wDrop (wAppend 2 (wCons (wCB dInt (wCons (wVar 3) wNil)) wNil)))
  (wSetF 3 (wBin dAdd (wVar 3) (wBin dIx (wVar 4) (wVar 5))))) (zipP (dev.map lsP) (row.map .int)) O [.dat D, .dat R, .own (.lst (acc.map .int)), .dat (.int t), s4, s5]
  | [], row, acc, t, s4, s5, O, _, _, h, e => by
    have := h t s4 s5
    simp only [ah, List.append_nil] at this
    exact this
  | ls :: dev, [], acc, t, s4, s5, O, _, _, h, e => by
    have := h t s4 s5
    simp only [ah, List.append_nil] at this
    exact this
  | ls :: dev, k :: row, acc, t, s4, s5, O, f, hl, h, e => by
    subst e
    obtain ⟨k0, k1⟩ := f (ls, k) (by rw [List.zip_cons_cons]; exact List.mem_cons_self)
    have k0 : 0 ≤ k := k0
    have k1 : k < (ls.length : Int) := k1
    obtain ⟨x, h3, h4⟩ := atI_of (xs := ls.map PD.int) (d := k) k0 (by rw [List.length_map]; exact k1)
    have hx : x = .int (ls.getD k.toNat 0) := by
      have hk : k.toNat < ls.length := by omega
      rw [List.getElem?_map, List.getElem?_eq_getElem hk] at h4
      rw [List.getD_eq_getElem?_getD, List.getElem?_eq_getElem hk]
      exact (Option.some.inj h4).symm
    subst hx
    have z2 : (2 : Nat) ≤ sizeLine := sz (by decide)
    show (wgTup 2 (wgCons (wName 4) (wgCons (wName 5) wgNil))) (.tup [lsP ls, .int k]) _ _
    simp only [z2, h3, lsP, wSeq, wNext, wIfS, wSetF, wSet, into, wSetIx, wRet, wRetN, wDrop, wB, wBin, wUn, wCB, wCons, wNil, wVar, wC, wIf, wAnd, wOr, DL.wNot, wAndV, wOrV, wNotV, wTup, wLst, wSl, wNoPart, wPart, wChain, wUnp, wgTup, wgCons, wgNil, wName, wIsi, wListRg, wRg1, wRg2, wTupRg, wPuts, puts, Rz.sd, wConsH, wAppend, wExtend, ownL, dI, dI0, dIx, dInt, dAbs, dLen, dMax2, dMin2, dSum, dAll, dAny, dList, dTuple, dAdd, dNeg, dIsN, dNotN, PD.isN, dSl, look, looks, ok, Rz.pd, SD.pd, OD.pd, Rz.cold, Rz.cool, warm, pdsOf, frz, frzAll, leave, argOf, onceB, newBor, isBor, ty_non, ty_bl, ty_int, ty_str, ty_lst, ty_scr, ty_tup, ty_dct, isa, String.reduceBEq, beq_self_eq_true, Bool.false_and, Bool.and_false, Bool.not_true, Bool.or_self, wYes, wCall, backS_0, backS_1, backS_2, backS_3, backS_4, backS_o0, backS_o1, backS_o2, backS_o3, dEq_int, dEq_str, dNeX_int, dNeX_str, List.length_cons, List.length_nil, List.cons_append, List.nil_append, List.replicate, Nat.reduceAdd, Nat.reduceSub, List.getElem?_cons_zero, List.getElem?_cons_succ, Option.bind_some, List.set_cons_zero, List.set_cons_succ, List.map_cons, List.map_nil, List.any_cons, List.any_nil, List.getD_cons_zero, List.getD_cons_succ, true_or, or_true, true_and, and_true, Bool.and_true, Bool.true_and, Bool.or_false, Bool.false_or, Bool.not_false, Bool.not_true, Bool.or_true, Bool.true_or, decide_true, decide_false, wFor, wRng1, wRng2, wLc, wSeqI, items, wEnumX, wCallO, wNever, noOwn, List.all_cons, List.all_nil, wipeS, Bool.and_self, decide_eq_true_eq, atI0a, atI0b, atI0c, atI1b, atI1c, atI2c, wZipX, seqP]
    refine ⟨by rw [List.length_map]; exact sz' (by omega), ?_⟩
    have e2 : acc.map PD.int ++ [.int t] = (acc ++ [t]).map PD.int := by simp
    rw [e2]
    refine aheads_loop dev row (acc ++ [t]) (t + ls.getD k.toNat 0) _ _ O (fun q hq => f q (by rw [List.zip_cons_cons]; exact List.mem_cons_of_mem _ hq)) (by rw [List.length_append, List.length_cons, List.length_nil]; rw [List.length_cons] at hl; omega) (fun t' s4 s5 => ?_) rfl
    have := h t' s4 s5
    rw [ah] at this
    rw [List.append_assoc]
    exact this
/-- a device, handed on or kept -/
def Dv (dev : List (List Int)) (D0 : SD) : Prop := D0 = .own (.lst (dev.map lsP)) ∨ D0 = .dat (devP dev)
theorem aheads_ok {cl : Nat → Addr} {dev : List (List Int)} {row : List Int} {D0 : SD} {Q : Rz → Sl → Prop} {Ξ : Xp} (hD : Dv dev D0) (hf : Fits dev row) (hl : dev.length ≤ 100) (h : Q (.own (.lst ((ah dev row 0).map .int))) [.dat (devP dev), .dat (rowP row)]) : F__law_aheads cl [D0, .dat (rowP row)] Q Ξ := by
  unfold F__law_aheads mkF
  refine ⟨pinned2 (fun o z => by cases z), ?_⟩
  rcases hD with rfl | rfl
  · simp only [w__law_aheads, rowP, wSeq, wNext, wIfS, wSetF, wSet, into, wSetIx, wRet, wRetN, wDrop, wB, wBin, wUn, wCB, wCons, wNil, wVar, wC, wIf, wAnd, wOr, DL.wNot, wAndV, wOrV, wNotV, wTup, wLst, wSl, wNoPart, wPart, wChain, wUnp, wgTup, wgCons, wgNil, wName, wIsi, wListRg, wRg1, wRg2, wTupRg, wPuts, puts, Rz.sd, wConsH, wAppend, wExtend, ownL, dI, dI0, dIx, dInt, dAbs, dLen, dMax2, dMin2, dSum, dAll, dAny, dList, dTuple, dAdd, dNeg, dIsN, dNotN, PD.isN, dSl, look, looks, ok, Rz.pd, SD.pd, OD.pd, Rz.cold, Rz.cool, warm, pdsOf, frz, frzAll, leave, argOf, onceB, newBor, isBor, ty_non, ty_bl, ty_int, ty_str, ty_lst, ty_scr, ty_tup, ty_dct, isa, String.reduceBEq, beq_self_eq_true, Bool.false_and, Bool.and_false, Bool.not_true, Bool.or_self, wYes, wCall, backS_0, backS_1, backS_2, backS_3, backS_4, backS_o0, backS_o1, backS_o2, backS_o3, dEq_int, dEq_str, dNeX_int, dNeX_str, List.length_cons, List.length_nil, List.cons_append, List.nil_append, List.replicate, Nat.reduceAdd, Nat.reduceSub, List.getElem?_cons_zero, List.getElem?_cons_succ, Option.bind_some, List.set_cons_zero, List.set_cons_succ, List.map_cons, List.map_nil, List.any_cons, List.any_nil, List.getD_cons_zero, List.getD_cons_succ, true_or, or_true, true_and, and_true, Bool.and_true, Bool.true_and, Bool.or_false, Bool.false_or, Bool.not_false, Bool.not_true, Bool.or_true, Bool.true_or, decide_true, decide_false, wFor, wRng1, wRng2, wLc, wSeqI, items, wEnumX, wCallO, wNever, noOwn, List.all_cons, List.all_nil, wipeS, Bool.and_self, decide_eq_true_eq, atI0a, atI0b, atI0c, atI1b, atI1c, atI2c, wZipX, seqP]
    refine ⟨Nat.zero_le _, ?_⟩
    refine aheads_loop (t0 := 0) dev row [] 0 _ _ _ hf (by rw [List.length_nil]; omega) (fun t s4 s5 => ?_) rfl
    simp only [List.nil_append, wSeq, wNext, wIfS, wSetF, wSet, into, wSetIx, wRet, wRetN, wDrop, wB, wBin, wUn, wCB, wCons, wNil, wVar, wC, wIf, wAnd, wOr, DL.wNot, wAndV, wOrV, wNotV, wTup, wLst, wSl, wNoPart, wPart, wChain, wUnp, wgTup, wgCons, wgNil, wName, wIsi, wListRg, wRg1, wRg2, wTupRg, wPuts, puts, Rz.sd, wConsH, wAppend, wExtend, ownL, dI, dI0, dIx, dInt, dAbs, dLen, dMax2, dMin2, dSum, dAll, dAny, dList, dTuple, dAdd, dNeg, dIsN, dNotN, PD.isN, dSl, look, looks, ok, Rz.pd, SD.pd, OD.pd, Rz.cold, Rz.cool, warm, pdsOf, frz, frzAll, leave, argOf, onceB, newBor, isBor, ty_non, ty_bl, ty_int, ty_str, ty_lst, ty_scr, ty_tup, ty_dct, isa, String.reduceBEq, beq_self_eq_true, Bool.false_and, Bool.and_false, Bool.not_true, Bool.or_self, wYes, wCall, backS_0, backS_1, backS_2, backS_3, backS_4, backS_o0, backS_o1, backS_o2, backS_o3, dEq_int, dEq_str, dNeX_int, dNeX_str, List.length_cons, List.length_nil, List.cons_append, List.nil_append, List.replicate, Nat.reduceAdd, Nat.reduceSub, List.getElem?_cons_zero, List.getElem?_cons_succ, Option.bind_some, List.set_cons_zero, List.set_cons_succ, List.map_cons, List.map_nil, List.any_cons, List.any_nil, List.getD_cons_zero, List.getD_cons_succ, true_or, or_true, true_and, and_true, Bool.and_true, Bool.true_and, Bool.or_false, Bool.false_or, Bool.not_false, Bool.not_true, Bool.or_true, Bool.true_or, decide_true, decide_false, wFor, wRng1, wRng2, wLc, wSeqI, items, wEnumX, wCallO, wNever, noOwn, List.all_cons, List.all_nil, wipeS, Bool.and_self, decide_eq_true_eq, atI0a, atI0b, atI0c, atI1b, atI1c, atI2c, wZipX, seqP]
    exact ⟨fun _ => rfl, h⟩
  · simp only [w__law_aheads, devP, rowP, wSeq, wNext, wIfS, wSetF, wSet, into, wSetIx, wRet, wRetN, wDrop, wB, wBin, wUn, wCB, wCons, wNil, wVar, wC, wIf, wAnd, wOr, DL.wNot, wAndV, wOrV, wNotV, wTup, wLst, wSl, wNoPart, wPart, wChain, wUnp, wgTup, wgCons, wgNil, wName, wIsi, wListRg, wRg1, wRg2, wTupRg, wPuts, puts, Rz.sd, wConsH, wAppend, wExtend, ownL, dI, dI0, dIx, dInt, dAbs, dLen, dMax2, dMin2, dSum, dAll, dAny, dList, dTuple, dAdd, dNeg, dIsN, dNotN, PD.isN, dSl, look, looks, ok, Rz.pd, SD.pd, OD.pd, Rz.cold, Rz.cool, warm, pdsOf, frz, frzAll, leave, argOf, onceB, newBor, isBor, ty_non, ty_bl, ty_int, ty_str, ty_lst, ty_scr, ty_tup, ty_dct, isa, String.reduceBEq, beq_self_eq_true, Bool.false_and, Bool.and_false, Bool.not_true, Bool.or_self, wYes, wCall, backS_0, backS_1, backS_2, backS_3, backS_4, backS_o0, backS_o1, backS_o2, backS_o3, dEq_int, dEq_str, dNeX_int, dNeX_str, List.length_cons, List.length_nil, List.cons_append, List.nil_append, List.replicate, Nat.reduceAdd, Nat.reduceSub, List.getElem?_cons_zero, List.getElem?_cons_succ, Option.bind_some, List.set_cons_zero, List.set_cons_succ, List.map_cons, List.map_nil, List.any_cons, List.any_nil, List.getD_cons_zero, List.getD_cons_succ, true_or, or_true, true_and, and_true, Bool.and_true, Bool.true_and, Bool.or_false, Bool.false_or, Bool.not_false, Bool.not_true, Bool.or_true, Bool.true_or, decide_true, decide_false, wFor, wRng1, wRng2, wLc, wSeqI, items, wEnumX, wCallO, wNever, noOwn, List.all_cons, List.all_nil, wipeS, Bool.and_self, decide_eq_true_eq, atI0a, atI0b, atI0c, atI1b, atI1c, atI2c, wZipX, seqP]
    refine ⟨Nat.zero_le _, ?_⟩
    refine aheads_loop (t0 := 0) dev row [] 0 _ _ _ hf (by rw [List.length_nil]; omega) (fun t s4 s5 => ?_) rfl
    simp only [List.nil_append, wSeq, wNext, wIfS, wSetF, wSet, into, wSetIx, wRet, wRetN, wDrop, wB, wBin, wUn, wCB, wCons, wNil, wVar, wC, wIf, wAnd, wOr, DL.wNot, wAndV, wOrV, wNotV, wTup, wLst, wSl, wNoPart, wPart, wChain, wUnp, wgTup, wgCons, wgNil, wName, wIsi, wListRg, wRg1, wRg2, wTupRg, wPuts, puts, Rz.sd, wConsH, wAppend, wExtend, ownL, dI, dI0, dIx, dInt, dAbs, dLen, dMax2, dMin2, dSum, dAll, dAny, dList, dTuple, dAdd, dNeg, dIsN, dNotN, PD.isN, dSl, look, looks, ok, Rz.pd, SD.pd, OD.pd, Rz.cold, Rz.cool, warm, pdsOf, frz, frzAll, leave, argOf, onceB, newBor, isBor, ty_non, ty_bl, ty_int, ty_str, ty_lst, ty_scr, ty_tup, ty_dct, isa, String.reduceBEq, beq_self_eq_true, Bool.false_and, Bool.and_false, Bool.not_true, Bool.or_self, wYes, wCall, backS_0, backS_1, backS_2, backS_3, backS_4, backS_o0, backS_o1, backS_o2, backS_o3, dEq_int, dEq_str, dNeX_int, dNeX_str, List.length_cons, List.length_nil, List.cons_append, List.nil_append, List.replicate, Nat.reduceAdd, Nat.reduceSub, List.getElem?_cons_zero, List.getElem?_cons_succ, Option.bind_some, List.set_cons_zero, List.set_cons_succ, List.map_cons, List.map_nil, List.any_cons, List.any_nil, List.getD_cons_zero, List.getD_cons_succ, true_or, or_true, true_and, and_true, Bool.and_true, Bool.true_and, Bool.or_false, Bool.false_or, Bool.not_false, Bool.not_true, Bool.or_true, Bool.true_or, decide_true, decide_false, wFor, wRng1, wRng2, wLc, wSeqI, items, wEnumX, wCallO, wNever, noOwn, List.all_cons, List.all_nil, wipeS, Bool.and_self, decide_eq_true_eq, atI0a, atI0b, atI0c, atI1b, atI1c, atI2c, wZipX, seqP]
    exact ⟨fun _ => rfl, h⟩
/-! ### the pairs that clash -/
section
variable (dev : List (List Int)) (rule : List (List Int)) (w : Str) (n : Int)
def Aq (x s : Nat) : Int := ((rule.map fun r => ah dev r 0).getD x []).getD s 0
def Rq (x s : Nat) : Int := (rule.getD x []).getD s 0
def stp (x y s : Nat) : List (Int × Int × Int × Int) :=
  if decide (0 ≤ Aq dev rule x s - Aq dev rule y s) && decide (Rq rule x s = Rq rule y s) then
    if canB w n ((rule.length : Int) - 1) x y (Aq dev rule x s - Aq dev rule y s) then [((x : Int), (y : Int), Aq dev rule x s - Aq dev rule y s, (s : Int))] else []
  else []
def colOf (x y : Nat) := (List.range dev.length).flatMap (stp dev rule w n x y)
def rowOf (x : Nat) := (List.range rule.length).flatMap (colOf dev rule w n x)
def allOf := (List.range rule.length).flatMap (rowOf dev rule w n)
end
abbrev q4 (q : Int × Int × Int × Int) : PD := .tup [.int q.1, .int q.2.1, .int q.2.2.1, .int q.2.2.2]
theorem range_more {α : Type} (k : Nat) (f : Nat → List α) : (List.range (k + 1)).flatMap f = (List.range k).flatMap f ++ f k := by
  rw [List.range_succ, List.flatMap_append]; simp
theorem flat_len {α : Type} {f : Nat → List α} {c : Nat} (h : ∀ i, (f i).length ≤ c) : ∀ k, ((List.range k).flatMap f).length ≤ k * c
  | 0 => by simp
  | k + 1 => by
    rw [range_more, List.length_append, Nat.add_mul, Nat.one_mul]
    exact Nat.add_le_add (flat_len h k) (h k)
theorem stp_len {dev rule : List (List Int)} {w : Str} {n : Int} (x y s : Nat) : (stp dev rule w n x y s).length ≤ 1 := by
  unfold stp
  split
  · split <;> simp
  · simp
/-- what the loops ask -/
structure Ok25 (dev rule : List (List Int)) : Prop where
  d : dev.length ≤ 40
  r : 1 ≤ rule.length ∧ rule.length ≤ 100
  f : ∀ row ∈ rule, Fits dev row ∧ row.length = dev.length
  s : ∀ x y s, Sm (Aq dev rule x s - Aq dev rule y s)
theorem ah_len : ∀ (dev : List (List Int)) (row : List Int) (t : Int), row.length = dev.length → (ah dev row t).length = dev.length
  | [], [], _, _ => rfl
  | ls :: dev, k :: row, t, h => by
    rw [ah, List.length_cons, List.length_cons, ah_len dev row _ (by simpa using h)]
/-- the number at a place of a row of a list of rows -/
theorem at_two {rows : List (List Int)} {mk : List Int → PD} {x s : Nat} {m : Nat} (hm : mk = lsP ∨ mk = rowP) (hx : x < rows.length) (hs : ∀ r ∈ rows, s < r.length) :
    ∃ r, atI (rows.map mk) (x : Int) = some (mk r) ∧ atI (r.map PD.int) (s : Int) = some (.int ((rows.getD x []).getD s 0)) := by
  obtain ⟨d, h1, h2⟩ := atI_of (xs := rows.map mk) (d := (x : Int)) (by omega) (by rw [List.length_map]; omega)
  have e : (x : Int).toNat = x := by omega
  rw [e, List.getElem?_map, List.getElem?_eq_getElem hx] at h2
  have h2 : d = mk rows[x] := (Option.some.inj h2).symm
  subst h2
  have hr := hs rows[x] (List.getElem_mem _)
  obtain ⟨d, h3, h4⟩ := atI_of (xs := rows[x].map PD.int) (d := (s : Int)) (by omega) (by rw [List.length_map]; omega)
  have e : (s : Int).toNat = s := by omega
  rw [e, List.getElem?_map, List.getElem?_eq_getElem hr] at h4
  have h4 : d = .int rows[x][s] := (Option.some.inj h4).symm
  subst h4
  refine ⟨rows[x], h1, ?_⟩
  rw [h3, List.getD_eq_getElem?_getD, List.getD_eq_getElem?_getD, List.getElem?_eq_getElem hx]
  show _ = some (PD.int ((rows[x])[s]?.getD 0))
  rw [List.getElem?_eq_getElem hr]
  rfl
theorem rg_at {n k : Nat} {d : PD} (h : (rgP 0 n)[k]? = some d) : d = .int (k : Int) ∧ k < n := by
  unfold rgP at h
  rw [List.getElem?_map] at h
  have hk : k < n := by
    cases q : (List.range n)[k]? with
    | none => rw [q] at h; cases h
    | some i => have := (List.getElem?_eq_some_iff.mp q).1; rw [List.length_range] at this; exact this
  rw [List.getElem?_range hk] at h
  refine ⟨?_, hk⟩
  have := (Option.some.inj h).symm
  rw [this]
  simp
theorem rg_len {n : Nat} : (rgP 0 n).length = n := by unfold rgP; rw [List.length_map, List.length_range]
abbrev AP (dev rule : List (List Int)) : List PD := (rule.map fun r => ah dev r 0).map lsP
/-- a turn of the innermost loop -/
theorem inner_ok {cl : Nat → Addr} {dev rule : List (List Int)} {w : Str} {n : Int} {O : On} {x y s : Nat} {acc : List (Int × Int × Int × Int)} {s9 s10 : SD} (k5 : Ok25 dev rule) (hs : Sv w n) (hx : x < rule.length) (hy : y < rule.length) (hk : s < dev.length) (hacc : acc.length ≤ 500000)
    (h : ∀ s9 s10, O.nx [.dat (devP dev), .dat (.lst (rule.map rowP)), .dat (sv w n), .dat (.int (x : Int)), .own (.lst (AP dev rule)), .own (.lst ((acc ++ stp dev rule w n x y s).map q4)), .dat (.int (y : Int)), .dat (.int (s : Int)), .emp, s9, s10]) :
    (wSeq (wSetF 9 (wBin (dI0 fun i j => .int (i - j)) (wBin dIx (wBin dIx (wVar 4) (wVar 3)) (wVar 7)) (wBin dIx (wBin dIx (wVar 4) (wVar 6)) (wVar 7))))
  (wIfS (wAnd (wB (wBin (dI0 fun i j => .bl (decide (j ≤ i))) (wVar 9) (wC (.int 0)))) (wB (wBin dEq (wBin dIx (wBin dIx (wVar 1) (wVar 3)) (wVar 7)) (wBin dIx (wBin dIx (wVar 1) (wVar 6)) (wVar 7))))) (wSeq (wSetF 10 (wCall 3 (F__law_can_be cl) noX (wCons (wVar 2) (wCons (wBin (dI0 fun i j => .int (i - j)) (wCB dLen (wCons (wVar 1) wNil)) (wC (.int 1))) (wCons (wTup (wCons (wVar 3) (wCons (wVar 6) (wCons (wVar 9) wNil)))) wNil)))))
  (wDrop (wExtend 5 (wCons (wIf (wB (wVar 10)) (wLst (wCons (wTup (wCons (wCB dInt (wCons (wVar 3) wNil)) (wCons (wCB dInt (wCons (wVar 6) wNil)) (wCons (wCB dInt (wCons (wVar 9) wNil)) (wCons (wCB dInt (wCons (wVar 7) wNil)) wNil))))) wNil)) (wLst wNil)) wNil)))) wNext)) O [.dat (devP dev), .dat (.lst (rule.map rowP)), .dat (sv w n), .dat (.int (x : Int)), .own (.lst (AP dev rule)), .own (.lst (acc.map q4)), .dat (.int (y : Int)), .dat (.int (s : Int)), .emp, s9, s10] := by
  have lr : ∀ r ∈ rule, s < r.length := fun r hr => by rw [(k5.f r hr).2]; exact hk
  have la : ∀ r ∈ rule.map (fun r => ah dev r 0), s < r.length := fun r hr => by
    obtain ⟨r', hr', rfl⟩ := List.mem_map.mp hr
    rw [ah_len dev r' 0 (k5.f r' hr').2]; exact hk
  obtain ⟨ax, a1, a2⟩ := at_two (m := 0) (mk := lsP) (x := x) (s := s) (.inl rfl) (by rw [List.length_map]; exact hx) la
  obtain ⟨ay, b1, b2⟩ := at_two (m := 0) (mk := lsP) (x := y) (s := s) (.inl rfl) (by rw [List.length_map]; exact hy) la
  obtain ⟨rx, c1, c2⟩ := at_two (m := 0) (mk := rowP) (x := x) (s := s) (.inr rfl) hx lr
  obtain ⟨ry, d1, d2⟩ := at_two (m := 0) (mk := rowP) (x := y) (s := s) (.inr rfl) hy lr
  have z3 : (3 : Nat) ≤ sizeLine := sz (by decide)
  have z4 : (4 : Nat) ≤ sizeLine := sz (by decide)
  have z1 : (1 : Nat) ≤ sizeLine := sz (by decide)
  have h10 : ∀ (b : Bool) (s9 s10 : SD), stp dev rule w n x y s = (if b then [((x : Int), (y : Int), Aq dev rule x s - Aq dev rule y s, (s : Int))] else []) → O.nx [.dat (devP dev), .dat (.lst (rule.map rowP)), .dat (sv w n), .dat (.int (x : Int)), .own (.lst (AP dev rule)), .own (.lst (acc.map q4 ++ (if b then [q4 ((x : Int), (y : Int), Aq dev rule x s - Aq dev rule y s, (s : Int))] else []))), .dat (.int (y : Int)), .dat (.int (s : Int)), .emp, s9, s10] := fun b s9 s10 e => by
    have := h s9 s10
    rw [e, List.map_append] at this
    cases b <;> exact this
  refine seq_to (ρ' := [.dat (devP dev), .dat (.lst (rule.map rowP)), .dat (sv w n), .dat (.int (x : Int)), .own (.lst (AP dev rule)), .own (.lst (acc.map q4)), .dat (.int (y : Int)), .dat (.int (s : Int)), .emp, .dat (.int (Aq dev rule x s - Aq dev rule y s)), s10]) (fun N hN => ?_) ?_
  · simp only [a1, a2, b1, b2, wSeq, wNext, wIfS, wSetF, wSet, into, wSetIx, wRet, wRetN, wDrop, wB, wBin, wUn, wCB, wCons, wNil, wVar, wC, wIf, wAnd, wOr, DL.wNot, wAndV, wOrV, wNotV, wTup, wLst, wSl, wNoPart, wPart, wChain, wUnp, wgTup, wgCons, wgNil, wName, wIsi, wListRg, wRg1, wRg2, wTupRg, wPuts, puts, Rz.sd, wConsH, wAppend, wExtend, ownL, dI, dI0, dIx, dInt, dAbs, dLen, dMax2, dMin2, dSum, dAll, dAny, dList, dTuple, dAdd, dNeg, dIsN, dNotN, PD.isN, dSl, look, looks, ok, Rz.pd, SD.pd, OD.pd, Rz.cold, Rz.cool, warm, pdsOf, frz, frzAll, leave, argOf, onceB, newBor, isBor, ty_non, ty_bl, ty_int, ty_str, ty_lst, ty_scr, ty_tup, ty_dct, isa, String.reduceBEq, beq_self_eq_true, Bool.false_and, Bool.and_false, Bool.not_true, Bool.or_self, wYes, wCall, backS_0, backS_1, backS_2, backS_3, backS_4, backS_o0, backS_o1, backS_o2, backS_o3, dEq_int, dEq_str, dNeX_int, dNeX_str, List.length_cons, List.length_nil, List.cons_append, List.nil_append, List.replicate, Nat.reduceAdd, Nat.reduceSub, List.getElem?_cons_zero, List.getElem?_cons_succ, Option.bind_some, List.set_cons_zero, List.set_cons_succ, List.map_cons, List.map_nil, List.any_cons, List.any_nil, List.getD_cons_zero, List.getD_cons_succ, true_or, or_true, true_and, and_true, Bool.and_true, Bool.true_and, Bool.or_false, Bool.false_or, Bool.not_false, Bool.not_true, Bool.or_true, Bool.true_or, decide_true, decide_false, wFor, wRng1, wRng2, wLc, wSeqI, items, wEnumX, wCallO, wNever, noOwn, List.all_cons, List.all_nil, wipeS, Bool.and_self, decide_eq_true_eq, atI0a, atI0b, atI0c, atI1b, atI1c, atI2c, wZipX, seqP]
    exact hN
  have e1 : (List.map rowP rule).length = rule.length := List.length_map ..
  by_cases q1 : 0 ≤ Aq dev rule x s - Aq dev rule y s
  · by_cases q2 : Rq rule x s = Rq rule y s
    · have es : stp dev rule w n x y s = if canB w n ((rule.length : Int) - 1) x y (Aq dev rule x s - Aq dev rule y s) then [((x : Int), (y : Int), Aq dev rule x s - Aq dev rule y s, (s : Int))] else [] := by
        unfold stp
        rw [decide_eq_true q1, decide_eq_true q2]
        rfl
      simp only [c1, c2, d1, d2, decide_eq_true q1, wSeq, wNext, wIfS, wSetF, wSet, into, wSetIx, wRet, wRetN, wDrop, wB, wBin, wUn, wCB, wCons, wNil, wVar, wC, wIf, wAnd, wOr, DL.wNot, wAndV, wOrV, wNotV, wTup, wLst, wSl, wNoPart, wPart, wChain, wUnp, wgTup, wgCons, wgNil, wName, wIsi, wListRg, wRg1, wRg2, wTupRg, wPuts, puts, Rz.sd, wConsH, wAppend, wExtend, ownL, dI, dI0, dIx, dInt, dAbs, dLen, dMax2, dMin2, dSum, dAll, dAny, dList, dTuple, dAdd, dNeg, dIsN, dNotN, PD.isN, dSl, look, looks, ok, Rz.pd, SD.pd, OD.pd, Rz.cold, Rz.cool, warm, pdsOf, frz, frzAll, leave, argOf, onceB, newBor, isBor, ty_non, ty_bl, ty_int, ty_str, ty_lst, ty_scr, ty_tup, ty_dct, isa, String.reduceBEq, beq_self_eq_true, Bool.false_and, Bool.and_false, Bool.not_true, Bool.or_self, wYes, wCall, backS_0, backS_1, backS_2, backS_3, backS_4, backS_o0, backS_o1, backS_o2, backS_o3, dEq_int, dEq_str, dNeX_int, dNeX_str, List.length_cons, List.length_nil, List.cons_append, List.nil_append, List.replicate, Nat.reduceAdd, Nat.reduceSub, List.getElem?_cons_zero, List.getElem?_cons_succ, Option.bind_some, List.set_cons_zero, List.set_cons_succ, List.map_cons, List.map_nil, List.any_cons, List.any_nil, List.getD_cons_zero, List.getD_cons_succ, true_or, or_true, true_and, and_true, Bool.and_true, Bool.true_and, Bool.or_false, Bool.false_or, Bool.not_false, Bool.not_true, Bool.or_true, Bool.true_or, decide_true, decide_false, wFor, wRng1, wRng2, wLc, wSeqI, items, wEnumX, wCallO, wNever, noOwn, List.all_cons, List.all_nil, wipeS, Bool.and_self, decide_eq_true_eq, atI0a, atI0b, atI0c, atI1b, atI1c, atI2c, wZipX, seqP]
      have q2' : ((rule.getD x []).getD s 0) = ((rule.getD y []).getD s 0) := q2
      simp only [decide_eq_true q2', z3, e1, wSeq, wNext, wIfS, wSetF, wSet, into, wSetIx, wRet, wRetN, wDrop, wB, wBin, wUn, wCB, wCons, wNil, wVar, wC, wIf, wAnd, wOr, DL.wNot, wAndV, wOrV, wNotV, wTup, wLst, wSl, wNoPart, wPart, wChain, wUnp, wgTup, wgCons, wgNil, wName, wIsi, wListRg, wRg1, wRg2, wTupRg, wPuts, puts, Rz.sd, wConsH, wAppend, wExtend, ownL, dI, dI0, dIx, dInt, dAbs, dLen, dMax2, dMin2, dSum, dAll, dAny, dList, dTuple, dAdd, dNeg, dIsN, dNotN, PD.isN, dSl, look, looks, ok, Rz.pd, SD.pd, OD.pd, Rz.cold, Rz.cool, warm, pdsOf, frz, frzAll, leave, argOf, onceB, newBor, isBor, ty_non, ty_bl, ty_int, ty_str, ty_lst, ty_scr, ty_tup, ty_dct, isa, String.reduceBEq, beq_self_eq_true, Bool.false_and, Bool.and_false, Bool.not_true, Bool.or_self, wYes, wCall, backS_0, backS_1, backS_2, backS_3, backS_4, backS_o0, backS_o1, backS_o2, backS_o3, dEq_int, dEq_str, dNeX_int, dNeX_str, List.length_cons, List.length_nil, List.cons_append, List.nil_append, List.replicate, Nat.reduceAdd, Nat.reduceSub, List.getElem?_cons_zero, List.getElem?_cons_succ, Option.bind_some, List.set_cons_zero, List.set_cons_succ, List.map_cons, List.map_nil, List.any_cons, List.any_nil, List.getD_cons_zero, List.getD_cons_succ, true_or, or_true, true_and, and_true, Bool.and_true, Bool.true_and, Bool.or_false, Bool.false_or, Bool.not_false, Bool.not_true, Bool.or_true, Bool.true_or, decide_true, decide_false, wFor, wRng1, wRng2, wLc, wSeqI, items, wEnumX, wCallO, wNever, noOwn, List.all_cons, List.all_nil, wipeS, Bool.and_self, decide_eq_true_eq, atI0a, atI0b, atI0c, atI1b, atI1c, atI2c, wZipX, seqP]
      refine can_ok hs (k5.s x y s) ?_
      cases hc : canB w n ((rule.length : Int) - 1) x y (Aq dev rule x s - Aq dev rule y s) with
      | true =>
        rw [hc] at es
        simp only [z1, z4, wSeq, wNext, wIfS, wSetF, wSet, into, wSetIx, wRet, wRetN, wDrop, wB, wBin, wUn, wCB, wCons, wNil, wVar, wC, wIf, wAnd, wOr, DL.wNot, wAndV, wOrV, wNotV, wTup, wLst, wSl, wNoPart, wPart, wChain, wUnp, wgTup, wgCons, wgNil, wName, wIsi, wListRg, wRg1, wRg2, wTupRg, wPuts, puts, Rz.sd, wConsH, wAppend, wExtend, ownL, dI, dI0, dIx, dInt, dAbs, dLen, dMax2, dMin2, dSum, dAll, dAny, dList, dTuple, dAdd, dNeg, dIsN, dNotN, PD.isN, dSl, look, looks, ok, Rz.pd, SD.pd, OD.pd, Rz.cold, Rz.cool, warm, pdsOf, frz, frzAll, leave, argOf, onceB, newBor, isBor, ty_non, ty_bl, ty_int, ty_str, ty_lst, ty_scr, ty_tup, ty_dct, isa, String.reduceBEq, beq_self_eq_true, Bool.false_and, Bool.and_false, Bool.not_true, Bool.or_self, wYes, wCall, backS_0, backS_1, backS_2, backS_3, backS_4, backS_o0, backS_o1, backS_o2, backS_o3, dEq_int, dEq_str, dNeX_int, dNeX_str, List.length_cons, List.length_nil, List.cons_append, List.nil_append, List.replicate, Nat.reduceAdd, Nat.reduceSub, List.getElem?_cons_zero, List.getElem?_cons_succ, Option.bind_some, List.set_cons_zero, List.set_cons_succ, List.map_cons, List.map_nil, List.any_cons, List.any_nil, List.getD_cons_zero, List.getD_cons_succ, true_or, or_true, true_and, and_true, Bool.and_true, Bool.true_and, Bool.or_false, Bool.false_or, Bool.not_false, Bool.not_true, Bool.or_true, Bool.true_or, decide_true, decide_false, wFor, wRng1, wRng2, wLc, wSeqI, items, wEnumX, wCallO, wNever, noOwn, List.all_cons, List.all_nil, wipeS, Bool.and_self, decide_eq_true_eq, atI0a, atI0b, atI0c, atI1b, atI1c, atI2c, wZipX, seqP]
        exact ⟨.inr ⟨_, rfl⟩, by rw [List.length_map, sizeLine_eq]; omega, h10 true _ _ es⟩
      | false =>
        rw [hc] at es
        simp only [z1, z4, wSeq, wNext, wIfS, wSetF, wSet, into, wSetIx, wRet, wRetN, wDrop, wB, wBin, wUn, wCB, wCons, wNil, wVar, wC, wIf, wAnd, wOr, DL.wNot, wAndV, wOrV, wNotV, wTup, wLst, wSl, wNoPart, wPart, wChain, wUnp, wgTup, wgCons, wgNil, wName, wIsi, wListRg, wRg1, wRg2, wTupRg, wPuts, puts, Rz.sd, wConsH, wAppend, wExtend, ownL, dI, dI0, dIx, dInt, dAbs, dLen, dMax2, dMin2, dSum, dAll, dAny, dList, dTuple, dAdd, dNeg, dIsN, dNotN, PD.isN, dSl, look, looks, ok, Rz.pd, SD.pd, OD.pd, Rz.cold, Rz.cool, warm, pdsOf, frz, frzAll, leave, argOf, onceB, newBor, isBor, ty_non, ty_bl, ty_int, ty_str, ty_lst, ty_scr, ty_tup, ty_dct, isa, String.reduceBEq, beq_self_eq_true, Bool.false_and, Bool.and_false, Bool.not_true, Bool.or_self, wYes, wCall, backS_0, backS_1, backS_2, backS_3, backS_4, backS_o0, backS_o1, backS_o2, backS_o3, dEq_int, dEq_str, dNeX_int, dNeX_str, List.length_cons, List.length_nil, List.cons_append, List.nil_append, List.replicate, Nat.reduceAdd, Nat.reduceSub, List.getElem?_cons_zero, List.getElem?_cons_succ, Option.bind_some, List.set_cons_zero, List.set_cons_succ, List.map_cons, List.map_nil, List.any_cons, List.any_nil, List.getD_cons_zero, List.getD_cons_succ, true_or, or_true, true_and, and_true, Bool.and_true, Bool.true_and, Bool.or_false, Bool.false_or, Bool.not_false, Bool.not_true, Bool.or_true, Bool.true_or, decide_true, decide_false, wFor, wRng1, wRng2, wLc, wSeqI, items, wEnumX, wCallO, wNever, noOwn, List.all_cons, List.all_nil, wipeS, Bool.and_self, decide_eq_true_eq, atI0a, atI0b, atI0c, atI1b, atI1c, atI2c, wZipX, seqP]
        refine ⟨Nat.zero_le _, .inr ⟨_, rfl⟩, by rw [List.length_map, sizeLine_eq]; omega, ?_⟩
        exact h10 false _ _ es
    · have es : stp dev rule w n x y s = [] := by
        unfold stp
        rw [decide_eq_false q2, Bool.and_false]
        rfl
      simp only [c1, c2, d1, d2, decide_eq_true q1, wSeq, wNext, wIfS, wSetF, wSet, into, wSetIx, wRet, wRetN, wDrop, wB, wBin, wUn, wCB, wCons, wNil, wVar, wC, wIf, wAnd, wOr, DL.wNot, wAndV, wOrV, wNotV, wTup, wLst, wSl, wNoPart, wPart, wChain, wUnp, wgTup, wgCons, wgNil, wName, wIsi, wListRg, wRg1, wRg2, wTupRg, wPuts, puts, Rz.sd, wConsH, wAppend, wExtend, ownL, dI, dI0, dIx, dInt, dAbs, dLen, dMax2, dMin2, dSum, dAll, dAny, dList, dTuple, dAdd, dNeg, dIsN, dNotN, PD.isN, dSl, look, looks, ok, Rz.pd, SD.pd, OD.pd, Rz.cold, Rz.cool, warm, pdsOf, frz, frzAll, leave, argOf, onceB, newBor, isBor, ty_non, ty_bl, ty_int, ty_str, ty_lst, ty_scr, ty_tup, ty_dct, isa, String.reduceBEq, beq_self_eq_true, Bool.false_and, Bool.and_false, Bool.not_true, Bool.or_self, wYes, wCall, backS_0, backS_1, backS_2, backS_3, backS_4, backS_o0, backS_o1, backS_o2, backS_o3, dEq_int, dEq_str, dNeX_int, dNeX_str, List.length_cons, List.length_nil, List.cons_append, List.nil_append, List.replicate, Nat.reduceAdd, Nat.reduceSub, List.getElem?_cons_zero, List.getElem?_cons_succ, Option.bind_some, List.set_cons_zero, List.set_cons_succ, List.map_cons, List.map_nil, List.any_cons, List.any_nil, List.getD_cons_zero, List.getD_cons_succ, true_or, or_true, true_and, and_true, Bool.and_true, Bool.true_and, Bool.or_false, Bool.false_or, Bool.not_false, Bool.not_true, Bool.or_true, Bool.true_or, decide_true, decide_false, wFor, wRng1, wRng2, wLc, wSeqI, items, wEnumX, wCallO, wNever, noOwn, List.all_cons, List.all_nil, wipeS, Bool.and_self, decide_eq_true_eq, atI0a, atI0b, atI0c, atI1b, atI1c, atI2c, wZipX, seqP]
      have q2' : ¬ ((rule.getD x []).getD s 0) = ((rule.getD y []).getD s 0) := q2
      simp only [decide_eq_false q2', wSeq, wNext, wIfS, wSetF, wSet, into, wSetIx, wRet, wRetN, wDrop, wB, wBin, wUn, wCB, wCons, wNil, wVar, wC, wIf, wAnd, wOr, DL.wNot, wAndV, wOrV, wNotV, wTup, wLst, wSl, wNoPart, wPart, wChain, wUnp, wgTup, wgCons, wgNil, wName, wIsi, wListRg, wRg1, wRg2, wTupRg, wPuts, puts, Rz.sd, wConsH, wAppend, wExtend, ownL, dI, dI0, dIx, dInt, dAbs, dLen, dMax2, dMin2, dSum, dAll, dAny, dList, dTuple, dAdd, dNeg, dIsN, dNotN, PD.isN, dSl, look, looks, ok, Rz.pd, SD.pd, OD.pd, Rz.cold, Rz.cool, warm, pdsOf, frz, frzAll, leave, argOf, onceB, newBor, isBor, ty_non, ty_bl, ty_int, ty_str, ty_lst, ty_scr, ty_tup, ty_dct, isa, String.reduceBEq, beq_self_eq_true, Bool.false_and, Bool.and_false, Bool.not_true, Bool.or_self, wYes, wCall, backS_0, backS_1, backS_2, backS_3, backS_4, backS_o0, backS_o1, backS_o2, backS_o3, dEq_int, dEq_str, dNeX_int, dNeX_str, List.length_cons, List.length_nil, List.cons_append, List.nil_append, List.replicate, Nat.reduceAdd, Nat.reduceSub, List.getElem?_cons_zero, List.getElem?_cons_succ, Option.bind_some, List.set_cons_zero, List.set_cons_succ, List.map_cons, List.map_nil, List.any_cons, List.any_nil, List.getD_cons_zero, List.getD_cons_succ, true_or, or_true, true_and, and_true, Bool.and_true, Bool.true_and, Bool.or_false, Bool.false_or, Bool.not_false, Bool.not_true, Bool.or_true, Bool.true_or, decide_true, decide_false, wFor, wRng1, wRng2, wLc, wSeqI, items, wEnumX, wCallO, wNever, noOwn, List.all_cons, List.all_nil, wipeS, Bool.and_self, decide_eq_true_eq, atI0a, atI0b, atI0c, atI1b, atI1c, atI2c, wZipX, seqP]
      have := h10 false (.dat (.int (Aq dev rule x s - Aq dev rule y s))) s10 es
      simp only [Bool.false_eq_true, if_false, List.append_nil] at this
      exact this
  · have es : stp dev rule w n x y s = [] := by
      unfold stp
      rw [decide_eq_false q1, Bool.false_and]
      rfl
    simp only [decide_eq_false q1, wSeq, wNext, wIfS, wSetF, wSet, into, wSetIx, wRet, wRetN, wDrop, wB, wBin, wUn, wCB, wCons, wNil, wVar, wC, wIf, wAnd, wOr, DL.wNot, wAndV, wOrV, wNotV, wTup, wLst, wSl, wNoPart, wPart, wChain, wUnp, wgTup, wgCons, wgNil, wName, wIsi, wListRg, wRg1, wRg2, wTupRg, wPuts, puts, Rz.sd, wConsH, wAppend, wExtend, ownL, dI, dI0, dIx, dInt, dAbs, dLen, dMax2, dMin2, dSum, dAll, dAny, dList, dTuple, dAdd, dNeg, dIsN, dNotN, PD.isN, dSl, look, looks, ok, Rz.pd, SD.pd, OD.pd, Rz.cold, Rz.cool, warm, pdsOf, frz, frzAll, leave, argOf, onceB, newBor, isBor, ty_non, ty_bl, ty_int, ty_str, ty_lst, ty_scr, ty_tup, ty_dct, isa, String.reduceBEq, beq_self_eq_true, Bool.false_and, Bool.and_false, Bool.not_true, Bool.or_self, wYes, wCall, backS_0, backS_1, backS_2, backS_3, backS_4, backS_o0, backS_o1, backS_o2, backS_o3, dEq_int, dEq_str, dNeX_int, dNeX_str, List.length_cons, List.length_nil, List.cons_append, List.nil_append, List.replicate, Nat.reduceAdd, Nat.reduceSub, List.getElem?_cons_zero, List.getElem?_cons_succ, Option.bind_some, List.set_cons_zero, List.set_cons_succ, List.map_cons, List.map_nil, List.any_cons, List.any_nil, List.getD_cons_zero, List.getD_cons_succ, true_or, or_true, true_and, and_true, Bool.and_true, Bool.true_and, Bool.or_false, Bool.false_or, Bool.not_false, Bool.not_true, Bool.or_true, Bool.true_or, decide_true, decide_false, wFor, wRng1, wRng2, wLc, wSeqI, items, wEnumX, wCallO, wNever, noOwn, List.all_cons, List.all_nil, wipeS, Bool.and_self, decide_eq_true_eq, atI0a, atI0b, atI0c, atI1b, atI1c, atI2c, wZipX, seqP]
    have := h10 false (.dat (.int (Aq dev rule x s - Aq dev rule y s))) s10 es
    simp only [Bool.false_eq_true, if_false, List.append_nil] at this
    exact this
def unI : PD → Int
  | .int i => i
  | _ => 0
theorem unI_map (r : List Int) : (r.map PD.int).map unI = r := by
  rw [List.map_map]
  exact List.map_id'' (fun _ => rfl) r
theorem alike4 (p q : Int × Int × Int × Int) : PySem.W.alike (q4 p).py (q4 q).py = true := by
  have := PySem.W.alike_ints [p.1, p.2.1, p.2.2.1, p.2.2.2] [q.1, q.2.1, q.2.2.1, q.2.2.2]
  show PySem.W.alike (.tuple [.int p.1, .int p.2.1, .int p.2.2.1, .int p.2.2.2]) (.tuple [.int q.1, .int q.2.1, .int q.2.2.1, .int q.2.2.2]) = true
  rw [PySem.W.alike]
  exact this
theorem sort4 (ps : List (Int × Int × Int × Int)) : (∀ x ∈ ps.map q4, x.plain = true) ∧ SortOk ((ps.map q4).map PD.py) := by
  refine ⟨fun x hx => ?_, ?_, ?_, ?_⟩
  · obtain ⟨p, _, rfl⟩ := List.mem_map.mp hx
    rfl
  · rw [List.map_map]
    exact PySem.W.AllAlike.of (enc := PD.py ∘ q4) fun p q => alike4 p q
  · rw [List.map_map]
    exact PySem.W.Sortable.tuples (enc := PD.py ∘ q4) fun p => ⟨_, _, rfl⟩
  · intro e he
    rw [List.map_map] at he
    obtain ⟨p, _, rfl⟩ := List.mem_map.mp he
    have := PySem.W.depth_ints [p.1, p.2.1, p.2.2.1, p.2.2.2]
    show PyData.depth (.tuple [.int p.1, .int p.2.1, .int p.2.2.1, .int p.2.2.2]) ≤ 60
    rw [PyData.depth]
    have e : PyData.depthAll [.int p.1, .int p.2.1, .int p.2.2.1, .int p.2.2.2] = 0 := this
    rw [e]
    decide
theorem for_len {wg : Wg} {wb : Ws} {O : On} {ρ : Sl} {v : Nat} {xs : List PD} (hv : ρ[v]? = some (.dat (.lst xs))) (hz : xs.length ≤ 1000) (h : forL wg wb (rgP 0 xs.length) O ρ) : wFor (wRng1 (wCons (wCB dLen (wCons (wVar v) wNil)) wNil)) wg wb O ρ := by
  simp only [hv, wSeq, wNext, wIfS, wSetF, wSet, into, wSetIx, wRet, wRetN, wDrop, wB, wBin, wUn, wCB, wCons, wNil, wVar, wC, wIf, wAnd, wOr, DL.wNot, wAndV, wOrV, wNotV, wTup, wLst, wSl, wNoPart, wPart, wChain, wUnp, wgTup, wgCons, wgNil, wName, wIsi, wListRg, wRg1, wRg2, wTupRg, wPuts, puts, Rz.sd, wConsH, wAppend, wExtend, ownL, dI, dI0, dIx, dInt, dAbs, dLen, dMax2, dMin2, dSum, dAll, dAny, dList, dTuple, dAdd, dNeg, dIsN, dNotN, PD.isN, dSl, look, looks, ok, Rz.pd, SD.pd, OD.pd, Rz.cold, Rz.cool, warm, pdsOf, frz, frzAll, leave, argOf, onceB, newBor, isBor, ty_non, ty_bl, ty_int, ty_str, ty_lst, ty_scr, ty_tup, ty_dct, isa, String.reduceBEq, beq_self_eq_true, Bool.false_and, Bool.and_false, Bool.not_true, Bool.or_self, wYes, wCall, backS_0, backS_1, backS_2, backS_3, backS_4, backS_o0, backS_o1, backS_o2, backS_o3, dEq_int, dEq_str, dNeX_int, dNeX_str, List.length_cons, List.length_nil, List.cons_append, List.nil_append, List.replicate, Nat.reduceAdd, Nat.reduceSub, List.getElem?_cons_zero, List.getElem?_cons_succ, Option.bind_some, List.set_cons_zero, List.set_cons_succ, List.map_cons, List.map_nil, List.any_cons, List.any_nil, List.getD_cons_zero, List.getD_cons_succ, true_or, or_true, true_and, and_true, Bool.and_true, Bool.true_and, Bool.or_false, Bool.false_or, Bool.not_false, Bool.not_true, Bool.or_true, Bool.true_or, decide_true, decide_false, wFor, wRng1, wRng2, wLc, wSeqI, items, wEnumX, wCallO, wNever, noOwn, List.all_cons, List.all_nil, wipeS, Bool.and_self, decide_eq_true_eq, atI0a, atI0b, atI0c, atI1b, atI1c, atI2c, wZipX, seqP]
  refine ⟨⟨by omega, by omega⟩, ?_⟩
  have e : (xs.length : Int).toNat = xs.length := by omega
  rw [e]
  exact h
/-- the slots of the three loops -/
def SlC (dev rule : List (List Int)) (w : Str) (n : Int) (acc : List (Int × Int × Int × Int)) (s3 s6 s7 s9 s10 : SD) : Sl := [.dat (devP dev), .dat (.lst (rule.map rowP)), .dat (sv w n), s3, .own (.lst (AP dev rule)), .own (.lst (acc.map q4)), s6, s7, .emp, s9, s10]
theorem pinned3 {x : SD} {a b : PD} : pinned (pin [0, 1, 2]) [x, .dat a, .dat b] := fun i o e => by
  match i with
  | 0 => rfl
  | 1 => cases e
  | 2 => cases e
  | i + 3 => simp at e
theorem clash_pairs_ok {cl : Nat → Addr} {dev rule : List (List Int)} {w : Str} {n : Int} {D0 : SD} {Q : Rz → Sl → Prop} {Ξ : Xp} (hD : Dv dev D0) (k5 : Ok25 dev rule) (hs : Sv w n) (h : Q (.own (.lst (((allOf dev rule w n).map q4).mergeSort leD))) [.dat (devP dev), .dat (.lst (rule.map rowP)), .dat (sv w n)]) :
    F__law_clash_pairs cl [D0, .dat (.lst (rule.map rowP)), .dat (sv w n)] Q Ξ := by
  unfold F__law_clash_pairs mkF
  refine ⟨pinned3, ?_⟩
  unfold w__law_clash_pairs
  have hd := k5.d
  obtain ⟨hr0, hr⟩ := k5.r
  refine seq_to (ρ' := [.dat (devP dev), .dat (.lst (rule.map rowP)), .dat (sv w n), .emp, .own (.lst (AP dev rule)), .own (.lst []), .emp, .emp, .emp, .emp, .emp]) (fun N hN => ?_) ?_
  · simp only [wSeq, wNext, wIfS, wSetF, wSet, into, wSetIx, wRet, wRetN, wDrop, wB, wBin, wUn, wCB, wCons, wNil, wVar, wC, wIf, wAnd, wOr, DL.wNot, wAndV, wOrV, wNotV, wTup, wLst, wSl, wNoPart, wPart, wChain, wUnp, wgTup, wgCons, wgNil, wName, wIsi, wListRg, wRg1, wRg2, wTupRg, wPuts, puts, Rz.sd, wConsH, wAppend, wExtend, ownL, dI, dI0, dIx, dInt, dAbs, dLen, dMax2, dMin2, dSum, dAll, dAny, dList, dTuple, dAdd, dNeg, dIsN, dNotN, PD.isN, dSl, look, looks, ok, Rz.pd, SD.pd, OD.pd, Rz.cold, Rz.cool, warm, pdsOf, frz, frzAll, leave, argOf, onceB, newBor, isBor, ty_non, ty_bl, ty_int, ty_str, ty_lst, ty_scr, ty_tup, ty_dct, isa, String.reduceBEq, beq_self_eq_true, Bool.false_and, Bool.and_false, Bool.not_true, Bool.or_self, wYes, wCall, backS_0, backS_1, backS_2, backS_3, backS_4, backS_o0, backS_o1, backS_o2, backS_o3, dEq_int, dEq_str, dNeX_int, dNeX_str, List.length_cons, List.length_nil, List.cons_append, List.nil_append, List.replicate, Nat.reduceAdd, Nat.reduceSub, List.getElem?_cons_zero, List.getElem?_cons_succ, Option.bind_some, List.set_cons_zero, List.set_cons_succ, List.map_cons, List.map_nil, List.any_cons, List.any_nil, List.getD_cons_zero, List.getD_cons_succ, true_or, or_true, true_and, and_true, Bool.and_true, Bool.true_and, Bool.or_false, Bool.false_or, Bool.not_false, Bool.not_true, Bool.or_true, Bool.true_or, decide_true, decide_false, wFor, wRng1, wRng2, wLc, wSeqI, items, wEnumX, wCallO, wNever, noOwn, List.all_cons, List.all_nil, wipeS, Bool.and_self, decide_eq_true_eq, atI0a, atI0b, atI0c, atI1b, atI1c, atI2c, wZipX, seqP]
    refine compL_upto (fun k acc ρ' => (∃ D1, Dv dev D1 ∧ (0 < k → D1 = .dat (devP dev)) ∧ ρ' = [D1, .dat (.lst (rule.map rowP)), .dat (sv w n), .emp, .emp, .emp, .emp, .emp, .emp, .emp, .emp]) ∧ acc = ((rule.map rowP).take k).map (fun d => match d with | .tup xs => lsP (ah dev (xs.map unI) 0) | _ => .non)) _ 0 [] _ ⟨⟨D0, hD, (fun z => absurd z (Nat.lt_irrefl _)), rfl⟩, rfl⟩ (fun t d acc ρ' N' ht hI hN' => ?_) (fun acc ρ' hI => ?_)
    · obtain ⟨⟨D1, hD1, _, rfl⟩, rfl⟩ := hI
      have htl := (List.getElem?_eq_some_iff.mp ht).1
      rw [List.length_map] at htl
      have ht2 := ht
      rw [List.getElem?_map, List.getElem?_eq_getElem htl] at ht2
      obtain rfl : rowP rule[t] = d := Option.some.inj ht2
      have fi := (k5.f rule[t] (List.getElem_mem _)).1
      have lenA : (((rule.map rowP).take (0 + t)).map (fun d => match d with | .tup xs => lsP (ah dev (xs.map unI) 0) | _ => .non)).length < sizeLine := by rw [List.length_map, List.length_take]; exact sz' (by omega)
      have next := hN' (((rule.map rowP).take (0 + t)).map (fun d => match d with | .tup xs => lsP (ah dev (xs.map unI) 0) | _ => .non) ++ [lsP (ah dev rule[t] 0)]) [.dat (devP dev), .dat (.lst (rule.map rowP)), .dat (sv w n), .emp, .emp, .emp, .emp, .emp, .emp, .emp, .emp] ⟨⟨_, .inr rfl, (fun _ => rfl), rfl⟩, by
        rw [Nat.zero_add, List.take_add_one, ht, List.map_append]
        show _ = _ ++ [lsP (ah dev ((rule[t].map PD.int).map unI) 0)]
        rw [unI_map]⟩
      rcases hD1 with rfl | rfl
      · simp only [backS_h1, wSeq, wNext, wIfS, wSetF, wSet, into, wSetIx, wRet, wRetN, wDrop, wB, wBin, wUn, wCB, wCons, wNil, wVar, wC, wIf, wAnd, wOr, DL.wNot, wAndV, wOrV, wNotV, wTup, wLst, wSl, wNoPart, wPart, wChain, wUnp, wgTup, wgCons, wgNil, wName, wIsi, wListRg, wRg1, wRg2, wTupRg, wPuts, puts, Rz.sd, wConsH, wAppend, wExtend, ownL, dI, dI0, dIx, dInt, dAbs, dLen, dMax2, dMin2, dSum, dAll, dAny, dList, dTuple, dAdd, dNeg, dIsN, dNotN, PD.isN, dSl, look, looks, ok, Rz.pd, SD.pd, OD.pd, Rz.cold, Rz.cool, warm, pdsOf, frz, frzAll, leave, argOf, onceB, newBor, isBor, ty_non, ty_bl, ty_int, ty_str, ty_lst, ty_scr, ty_tup, ty_dct, isa, String.reduceBEq, beq_self_eq_true, Bool.false_and, Bool.and_false, Bool.not_true, Bool.or_self, wYes, wCall, backS_0, backS_1, backS_2, backS_3, backS_4, backS_o0, backS_o1, backS_o2, backS_o3, dEq_int, dEq_str, dNeX_int, dNeX_str, List.length_cons, List.length_nil, List.cons_append, List.nil_append, List.replicate, Nat.reduceAdd, Nat.reduceSub, List.getElem?_cons_zero, List.getElem?_cons_succ, Option.bind_some, List.set_cons_zero, List.set_cons_succ, List.map_cons, List.map_nil, List.any_cons, List.any_nil, List.getD_cons_zero, List.getD_cons_succ, true_or, or_true, true_and, and_true, Bool.and_true, Bool.true_and, Bool.or_false, Bool.false_or, Bool.not_false, Bool.not_true, Bool.or_true, Bool.true_or, decide_true, decide_false, wFor, wRng1, wRng2, wLc, wSeqI, items, wEnumX, wCallO, wNever, noOwn, List.all_cons, List.all_nil, wipeS, Bool.and_self, decide_eq_true_eq, atI0a, atI0b, atI0c, atI1b, atI1c, atI2c, wZipX, seqP]
        refine aheads_ok (.inl rfl) fi (by omega) ?_
        simp only [backS_h1, wSeq, wNext, wIfS, wSetF, wSet, into, wSetIx, wRet, wRetN, wDrop, wB, wBin, wUn, wCB, wCons, wNil, wVar, wC, wIf, wAnd, wOr, DL.wNot, wAndV, wOrV, wNotV, wTup, wLst, wSl, wNoPart, wPart, wChain, wUnp, wgTup, wgCons, wgNil, wName, wIsi, wListRg, wRg1, wRg2, wTupRg, wPuts, puts, Rz.sd, wConsH, wAppend, wExtend, ownL, dI, dI0, dIx, dInt, dAbs, dLen, dMax2, dMin2, dSum, dAll, dAny, dList, dTuple, dAdd, dNeg, dIsN, dNotN, PD.isN, dSl, look, looks, ok, Rz.pd, SD.pd, OD.pd, Rz.cold, Rz.cool, warm, pdsOf, frz, frzAll, leave, argOf, onceB, newBor, isBor, ty_non, ty_bl, ty_int, ty_str, ty_lst, ty_scr, ty_tup, ty_dct, isa, String.reduceBEq, beq_self_eq_true, Bool.false_and, Bool.and_false, Bool.not_true, Bool.or_self, wYes, wCall, backS_0, backS_1, backS_2, backS_3, backS_4, backS_o0, backS_o1, backS_o2, backS_o3, dEq_int, dEq_str, dNeX_int, dNeX_str, List.length_cons, List.length_nil, List.cons_append, List.nil_append, List.replicate, Nat.reduceAdd, Nat.reduceSub, List.getElem?_cons_zero, List.getElem?_cons_succ, Option.bind_some, List.set_cons_zero, List.set_cons_succ, List.map_cons, List.map_nil, List.any_cons, List.any_nil, List.getD_cons_zero, List.getD_cons_succ, true_or, or_true, true_and, and_true, Bool.and_true, Bool.true_and, Bool.or_false, Bool.false_or, Bool.not_false, Bool.not_true, Bool.or_true, Bool.true_or, decide_true, decide_false, wFor, wRng1, wRng2, wLc, wSeqI, items, wEnumX, wCallO, wNever, noOwn, List.all_cons, List.all_nil, wipeS, Bool.and_self, decide_eq_true_eq, atI0a, atI0b, atI0c, atI1b, atI1c, atI2c, wZipX, seqP]
        exact ⟨.inr ⟨_, rfl⟩, lenA, next⟩
      · simp only [wSeq, wNext, wIfS, wSetF, wSet, into, wSetIx, wRet, wRetN, wDrop, wB, wBin, wUn, wCB, wCons, wNil, wVar, wC, wIf, wAnd, wOr, DL.wNot, wAndV, wOrV, wNotV, wTup, wLst, wSl, wNoPart, wPart, wChain, wUnp, wgTup, wgCons, wgNil, wName, wIsi, wListRg, wRg1, wRg2, wTupRg, wPuts, puts, Rz.sd, wConsH, wAppend, wExtend, ownL, dI, dI0, dIx, dInt, dAbs, dLen, dMax2, dMin2, dSum, dAll, dAny, dList, dTuple, dAdd, dNeg, dIsN, dNotN, PD.isN, dSl, look, looks, ok, Rz.pd, SD.pd, OD.pd, Rz.cold, Rz.cool, warm, pdsOf, frz, frzAll, leave, argOf, onceB, newBor, isBor, ty_non, ty_bl, ty_int, ty_str, ty_lst, ty_scr, ty_tup, ty_dct, isa, String.reduceBEq, beq_self_eq_true, Bool.false_and, Bool.and_false, Bool.not_true, Bool.or_self, wYes, wCall, backS_0, backS_1, backS_2, backS_3, backS_4, backS_o0, backS_o1, backS_o2, backS_o3, dEq_int, dEq_str, dNeX_int, dNeX_str, List.length_cons, List.length_nil, List.cons_append, List.nil_append, List.replicate, Nat.reduceAdd, Nat.reduceSub, List.getElem?_cons_zero, List.getElem?_cons_succ, Option.bind_some, List.set_cons_zero, List.set_cons_succ, List.map_cons, List.map_nil, List.any_cons, List.any_nil, List.getD_cons_zero, List.getD_cons_succ, true_or, or_true, true_and, and_true, Bool.and_true, Bool.true_and, Bool.or_false, Bool.false_or, Bool.not_false, Bool.not_true, Bool.or_true, Bool.true_or, decide_true, decide_false, wFor, wRng1, wRng2, wLc, wSeqI, items, wEnumX, wCallO, wNever, noOwn, List.all_cons, List.all_nil, wipeS, Bool.and_self, decide_eq_true_eq, atI0a, atI0b, atI0c, atI1b, atI1c, atI2c, wZipX, seqP]
        refine aheads_ok (.inr rfl) fi (by omega) ?_
        simp only [wSeq, wNext, wIfS, wSetF, wSet, into, wSetIx, wRet, wRetN, wDrop, wB, wBin, wUn, wCB, wCons, wNil, wVar, wC, wIf, wAnd, wOr, DL.wNot, wAndV, wOrV, wNotV, wTup, wLst, wSl, wNoPart, wPart, wChain, wUnp, wgTup, wgCons, wgNil, wName, wIsi, wListRg, wRg1, wRg2, wTupRg, wPuts, puts, Rz.sd, wConsH, wAppend, wExtend, ownL, dI, dI0, dIx, dInt, dAbs, dLen, dMax2, dMin2, dSum, dAll, dAny, dList, dTuple, dAdd, dNeg, dIsN, dNotN, PD.isN, dSl, look, looks, ok, Rz.pd, SD.pd, OD.pd, Rz.cold, Rz.cool, warm, pdsOf, frz, frzAll, leave, argOf, onceB, newBor, isBor, ty_non, ty_bl, ty_int, ty_str, ty_lst, ty_scr, ty_tup, ty_dct, isa, String.reduceBEq, beq_self_eq_true, Bool.false_and, Bool.and_false, Bool.not_true, Bool.or_self, wYes, wCall, backS_0, backS_1, backS_2, backS_3, backS_4, backS_o0, backS_o1, backS_o2, backS_o3, dEq_int, dEq_str, dNeX_int, dNeX_str, List.length_cons, List.length_nil, List.cons_append, List.nil_append, List.replicate, Nat.reduceAdd, Nat.reduceSub, List.getElem?_cons_zero, List.getElem?_cons_succ, Option.bind_some, List.set_cons_zero, List.set_cons_succ, List.map_cons, List.map_nil, List.any_cons, List.any_nil, List.getD_cons_zero, List.getD_cons_succ, true_or, or_true, true_and, and_true, Bool.and_true, Bool.true_and, Bool.or_false, Bool.false_or, Bool.not_false, Bool.not_true, Bool.or_true, Bool.true_or, decide_true, decide_false, wFor, wRng1, wRng2, wLc, wSeqI, items, wEnumX, wCallO, wNever, noOwn, List.all_cons, List.all_nil, wipeS, Bool.and_self, decide_eq_true_eq, atI0a, atI0b, atI0c, atI1b, atI1c, atI2c, wZipX, seqP]
        exact ⟨.inr ⟨_, rfl⟩, lenA, next⟩
    · obtain ⟨⟨D1, _, hD1, rfl⟩, rfl⟩ := hI
      rw [List.length_map, Nat.zero_add] at hD1
      have := hD1 (by omega)
      subst this
      have et : (rule.map rowP).take (0 + (rule.map rowP).length) = rule.map rowP := by rw [Nat.zero_add, List.take_length]
      rw [et]
      have e : (rule.map rowP).map (fun d => match d with | .tup xs => lsP (ah dev (xs.map unI) 0) | _ => PD.non) = AP dev rule := by
        unfold AP
        rw [List.map_map, List.map_map]
        refine List.map_congr_left fun r _ => ?_
        show lsP (ah dev ((r.map PD.int).map unI) 0) = lsP (ah dev r 0)
        rw [unI_map]
      rw [e]
      simp only [restore, wSeq, wNext, wIfS, wSetF, wSet, into, wSetIx, wRet, wRetN, wDrop, wB, wBin, wUn, wCB, wCons, wNil, wVar, wC, wIf, wAnd, wOr, DL.wNot, wAndV, wOrV, wNotV, wTup, wLst, wSl, wNoPart, wPart, wChain, wUnp, wgTup, wgCons, wgNil, wName, wIsi, wListRg, wRg1, wRg2, wTupRg, wPuts, puts, Rz.sd, wConsH, wAppend, wExtend, ownL, dI, dI0, dIx, dInt, dAbs, dLen, dMax2, dMin2, dSum, dAll, dAny, dList, dTuple, dAdd, dNeg, dIsN, dNotN, PD.isN, dSl, look, looks, ok, Rz.pd, SD.pd, OD.pd, Rz.cold, Rz.cool, warm, pdsOf, frz, frzAll, leave, argOf, onceB, newBor, isBor, ty_non, ty_bl, ty_int, ty_str, ty_lst, ty_scr, ty_tup, ty_dct, isa, String.reduceBEq, beq_self_eq_true, Bool.false_and, Bool.and_false, Bool.not_true, Bool.or_self, wYes, wCall, backS_0, backS_1, backS_2, backS_3, backS_4, backS_o0, backS_o1, backS_o2, backS_o3, dEq_int, dEq_str, dNeX_int, dNeX_str, List.length_cons, List.length_nil, List.cons_append, List.nil_append, List.replicate, Nat.reduceAdd, Nat.reduceSub, List.getElem?_cons_zero, List.getElem?_cons_succ, Option.bind_some, List.set_cons_zero, List.set_cons_succ, List.map_cons, List.map_nil, List.any_cons, List.any_nil, List.getD_cons_zero, List.getD_cons_succ, true_or, or_true, true_and, and_true, Bool.and_true, Bool.true_and, Bool.or_false, Bool.false_or, Bool.not_false, Bool.not_true, Bool.or_true, Bool.true_or, decide_true, decide_false, wFor, wRng1, wRng2, wLc, wSeqI, items, wEnumX, wCallO, wNever, noOwn, List.all_cons, List.all_nil, wipeS, Bool.and_self, decide_eq_true_eq, atI0a, atI0b, atI0c, atI1b, atI1c, atI2c, wZipX, seqP]
      exact ⟨Nat.zero_le _, hN⟩
  have e1 : (List.map rowP rule).length = rule.length := List.length_map ..
  have e2 : (List.map lsP dev).length = dev.length := List.length_map ..
  have l1 : ∀ x y, (colOf dev rule w n x y).length ≤ dev.length := fun x y => by
    have := flat_len (f := stp dev rule w n x y) (c := 1) (fun s => stp_len x y s) dev.length
    rw [Nat.mul_one] at this
    exact this
  have l2 : ∀ x, (rowOf dev rule w n x).length ≤ rule.length * dev.length := fun x => flat_len (fun y => l1 x y) rule.length
  have m1 : rule.length * dev.length ≤ 4000 := by
    calc rule.length * dev.length ≤ 100 * 40 := Nat.mul_le_mul hr hd
      _ = 4000 := rfl
  have m2 : rule.length * (rule.length * dev.length) ≤ 400000 := by
    calc rule.length * (rule.length * dev.length) ≤ 100 * 4000 := Nat.mul_le_mul hr m1
      _ = 400000 := rfl
  refine seq_by (fun ρ' => ∃ s3 s6 s7 s9 s10, ρ' = SlC dev rule w n (allOf dev rule w n) s3 s6 s7 s9 s10) (fun N hN => ?_) (fun ρ hρ => ?_)
  · refine for_len (xs := rule.map rowP) rfl (by omega) ?_
    rw [e1]
    refine forL_upto (fun x ρ => ∃ s3 s6 s7 s9 s10, ρ = SlC dev rule w n ((List.range x).flatMap (rowOf dev rule w n)) s3 s6 s7 s9 s10) _ 0 _ ⟨_, _, _, _, _, rfl⟩ (fun x d ρ N1 hj hI hN1 => ?_) (fun ρ hI => ?_)
    · obtain ⟨s3, s6, s7, s9, s10, rfl⟩ := hI
      obtain ⟨rfl, hx⟩ := rg_at hj
      rw [Nat.zero_add] at hN1 ⊢
      show wFor _ _ _ _ (SlC dev rule w n ((List.range x).flatMap (rowOf dev rule w n)) (.dat (.int (x : Int))) s6 s7 s9 s10)
      refine for_len (xs := rule.map rowP) rfl (by omega) ?_
      rw [e1]
      refine forL_upto (fun y ρ => ∃ s6 s7 s9 s10, ρ = SlC dev rule w n ((List.range x).flatMap (rowOf dev rule w n) ++ (List.range y).flatMap (colOf dev rule w n x)) (.dat (.int (x : Int))) s6 s7 s9 s10) _ 0 _ ⟨s6, s7, s9, s10, by simp⟩ (fun y d ρ N2 hj hI hN2 => ?_) (fun ρ hI => ?_)
      · obtain ⟨s6, s7, s9, s10, rfl⟩ := hI
        obtain ⟨rfl, hy⟩ := rg_at hj
        rw [Nat.zero_add] at hN2 ⊢
        show wFor _ _ _ _ (SlC dev rule w n ((List.range x).flatMap (rowOf dev rule w n) ++ (List.range y).flatMap (colOf dev rule w n x)) (.dat (.int (x : Int))) (.dat (.int (y : Int))) s7 s9 s10)
        refine for_len (v := 0) (xs := dev.map lsP) rfl (by omega) ?_
        rw [e2]
        refine forL_upto (fun s ρ => ∃ s7 s9 s10, ρ = SlC dev rule w n ((List.range x).flatMap (rowOf dev rule w n) ++ (List.range y).flatMap (colOf dev rule w n x) ++ (List.range s).flatMap (stp dev rule w n x y)) (.dat (.int (x : Int))) (.dat (.int (y : Int))) s7 s9 s10) _ 0 _ ⟨s7, s9, s10, by simp⟩ (fun s d ρ N3 hj hI hN3 => ?_) (fun ρ hI => ?_)
        · obtain ⟨s7, s9, s10, rfl⟩ := hI
          obtain ⟨rfl, hs3⟩ := rg_at hj
          rw [Nat.zero_add] at hN3 ⊢
          refine inner_ok k5 hs hx hy hs3 ?_ fun s9 s10 => hN3 _ ⟨.dat (.int (s : Int)), s9, s10, ?_⟩
          · have b1 := flat_len (f := rowOf dev rule w n) l2 x
            have b2 := flat_len (f := colOf dev rule w n x) (l1 x) y
            have b3 := flat_len (f := stp dev rule w n x y) (c := 1) (fun s => stp_len x y s) s
            have c1 : x * (rule.length * dev.length) ≤ 100 * (rule.length * dev.length) := Nat.mul_le_mul_right _ (by omega)
            have c2 : y * dev.length ≤ 100 * dev.length := Nat.mul_le_mul_right _ (by omega)
            rw [List.length_append, List.length_append]
            omega
          · unfold SlC
            rw [range_more, ← List.append_assoc]
        · obtain ⟨s7, s9, s10, rfl⟩ := hI
          refine hN2 _ ⟨.dat (.int (y : Int)), s7, s9, s10, ?_⟩
          rw [rg_len, Nat.zero_add, range_more, ← List.append_assoc]
          rfl
      · obtain ⟨s6, s7, s9, s10, rfl⟩ := hI
        refine hN1 _ ⟨.dat (.int (x : Int)), s6, s7, s9, s10, ?_⟩
        rw [rg_len, Nat.zero_add, range_more]
        rfl
    · obtain ⟨s3, s6, s7, s9, s10, rfl⟩ := hI
      refine hN _ ⟨s3, s6, s7, s9, s10, ?_⟩
      rw [rg_len, Nat.zero_add]
      rfl
  · obtain ⟨s3, s6, s7, s9, s10, rfl⟩ := hρ
    obtain ⟨o1, o2⟩ := sort4 (allOf dev rule w n)
    simp only [SlC, dSorted, wSeq, wNext, wIfS, wSetF, wSet, into, wSetIx, wRet, wRetN, wDrop, wB, wBin, wUn, wCB, wCons, wNil, wVar, wC, wIf, wAnd, wOr, DL.wNot, wAndV, wOrV, wNotV, wTup, wLst, wSl, wNoPart, wPart, wChain, wUnp, wgTup, wgCons, wgNil, wName, wIsi, wListRg, wRg1, wRg2, wTupRg, wPuts, puts, Rz.sd, wConsH, wAppend, wExtend, ownL, dI, dI0, dIx, dInt, dAbs, dLen, dMax2, dMin2, dSum, dAll, dAny, dList, dTuple, dAdd, dNeg, dIsN, dNotN, PD.isN, dSl, look, looks, ok, Rz.pd, SD.pd, OD.pd, Rz.cold, Rz.cool, warm, pdsOf, frz, frzAll, leave, argOf, onceB, newBor, isBor, ty_non, ty_bl, ty_int, ty_str, ty_lst, ty_scr, ty_tup, ty_dct, isa, String.reduceBEq, beq_self_eq_true, Bool.false_and, Bool.and_false, Bool.not_true, Bool.or_self, wYes, wCall, backS_0, backS_1, backS_2, backS_3, backS_4, backS_o0, backS_o1, backS_o2, backS_o3, dEq_int, dEq_str, dNeX_int, dNeX_str, List.length_cons, List.length_nil, List.cons_append, List.nil_append, List.replicate, Nat.reduceAdd, Nat.reduceSub, List.getElem?_cons_zero, List.getElem?_cons_succ, Option.bind_some, List.set_cons_zero, List.set_cons_succ, List.map_cons, List.map_nil, List.any_cons, List.any_nil, List.getD_cons_zero, List.getD_cons_succ, true_or, or_true, true_and, and_true, Bool.and_true, Bool.true_and, Bool.or_false, Bool.false_or, Bool.not_false, Bool.not_true, Bool.or_true, Bool.true_or, decide_true, decide_false, wFor, wRng1, wRng2, wLc, wSeqI, items, wEnumX, wCallO, wNever, noOwn, List.all_cons, List.all_nil, wipeS, Bool.and_self, decide_eq_true_eq, atI0a, atI0b, atI0c, atI1b, atI1c, atI2c, wZipX, seqP]
    exact ⟨o1, o2, h⟩
end Lk

set_option Elab.async false
set_option linter.all false
set_option maxRecDepth 100000
set_option maxHeartbeats 4000000
set_option exponentiation.threshold 3000
namespace Lk
open PySem L2 DL
/-- the product of bases -/
def prodL (ns : List Int) : Int := ns.foldl (· * ·) 1
theorem prod_snoc (ns : List Int) (b : Int) : prodL (ns ++ [b]) = prodL ns * b := by unfold prodL; rw [List.foldl_append]; rfl
theorem ints_plain : ∀ xs : List Int, plainAll (xs.map .int) = true
  | [] => rfl
  | x :: xs => by rw [List.map_cons, plainAll, ints_plain xs]; rfl
theorem ints_lay : ∀ xs : List Int, PyData.canLayAll0 (pyAll (xs.map .int)) = true
  | [] => by simp [pyAll, PyData.canLayAll0]
  | x :: xs => by rw [List.map_cons, pyAll, PyData.canLayAll0, ints_lay xs]; simp [PD.py, PyData.canLay0]
theorem ints_deep : ∀ xs : List Int, PyData.depthAll (pyAll (xs.map .int)) = 0
  | [] => by simp [pyAll, PyData.depthAll]
  | x :: xs => by rw [List.map_cons, pyAll, PyData.depthAll, ints_deep xs]; simp [PD.py, PyData.depth]
theorem cmp_ints (xs : List Int) : cmpOk (.lst (xs.map .int)) := by
  refine ⟨ints_plain xs, ?_⟩
  unfold SeqAt.shaped
  rw [PD.py, PyData.canLay0, ints_lay, PyData.depth, ints_deep]
  rfl
theorem dNe_nil {xs : List Int} {k : Rz → Prop} (h : k (.dat (.bl (!xs.isEmpty)))) : dNeX (.lst (xs.map .int)) (.lst []) k := by
  refine ⟨cmp_ints xs, cmp_ints [], ?_⟩
  cases xs with
  | nil => exact h
  | cons x xs =>
    have e : PyData.eqv (PD.lst (List.map PD.int (x :: xs))).py (PD.lst []).py = false := by simp [PD.py, pyAll, PyData.eqv, PyData.eqvAll]
    rw [e]
    exact h
theorem bases_ok {cl : Nat → Addr} {m : Int} {s : SD} {Q : Rz → Sl → Prop} {Ξ : Xp} (hp : Pot m s) (hm : 0 ≤ m ∧ m ≤ 1000000)
    (h : ∀ ns s', Bases ns → 1 ≤ ns.length → ns.length ≤ 4 → prodL ns ≤ 24 → Pot (m + 10) s' → Q (.dat (bs ns)) [s', .dat (.int 4), .dat (.int 24)]) : F__law_bases cl [s, .dat (.int 4), .dat (.int 24)] Q Ξ := by
  obtain ⟨o, rfl⟩ := hp.own
  unfold F__law_bases mkF
  refine ⟨pinned3, ?_⟩
  unfold w__law_bases
  have z1 : (1 : Nat) ≤ sizeLine := sz (by decide)
  have z5 : (5 : Nat) ≤ sizeLine := sz (by decide)
  refine seq_to (ρ' := [.own o, .dat (.int 4), .dat (.int 24), .emp, .own (.lst []), .dat (.int 1), .emp]) (fun N hN => ?_) ?_
  · simp only [wSeq, wNext, wIfS, wSetF, wSet, into, wSetIx, wRet, wRetN, wDrop, wB, wBin, wUn, wCB, wCons, wNil, wVar, wC, wIf, wAnd, wOr, DL.wNot, wAndV, wOrV, wNotV, wTup, wLst, wSl, wNoPart, wPart, wChain, wUnp, wgTup, wgCons, wgNil, wName, wIsi, wListRg, wRg1, wRg2, wTupRg, wPuts, puts, Rz.sd, wConsH, wAppend, wExtend, ownL, dI, dI0, dIx, dInt, dAbs, dLen, dMax2, dMin2, dSum, dAll, dAny, dList, dTuple, dAdd, dNeg, dIsN, dNotN, PD.isN, dSl, look, looks, ok, Rz.pd, SD.pd, OD.pd, Rz.cold, Rz.cool, warm, pdsOf, frz, frzAll, leave, argOf, onceB, newBor, isBor, ty_non, ty_bl, ty_int, ty_str, ty_lst, ty_scr, ty_tup, ty_dct, isa, String.reduceBEq, beq_self_eq_true, Bool.false_and, Bool.and_false, Bool.not_true, Bool.or_self, wYes, wCall, backS_0, backS_1, backS_2, backS_3, backS_4, backS_o0, backS_o1, backS_o2, backS_o3, dEq_int, dEq_str, dNeX_int, dNeX_str, List.length_cons, List.length_nil, List.cons_append, List.nil_append, List.replicate, Nat.reduceAdd, Nat.reduceSub, List.getElem?_cons_zero, List.getElem?_cons_succ, Option.bind_some, List.set_cons_zero, List.set_cons_succ, List.map_cons, List.map_nil, List.any_cons, List.any_nil, List.getD_cons_zero, List.getD_cons_succ, true_or, or_true, true_and, and_true, Bool.and_true, Bool.true_and, Bool.or_false, Bool.false_or, Bool.not_false, Bool.not_true, Bool.or_true, Bool.true_or, decide_true, decide_false, wFor, wRng1, wRng2, wLc, wSeqI, items, wEnumX, wCallO, wNever, noOwn, List.all_cons, List.all_nil, wipeS, Bool.and_self, decide_eq_true_eq, atI0a, atI0b, atI0c, atI1b, atI1c, atI2c, wZipX, seqP]
    exact ⟨Nat.zero_le _, hN⟩
  refine seq_by (fun ρ' => ∃ s ns s3 s6, Pot (m + 10) s ∧ Bases ns ∧ ns.length ≤ 4 ∧ prodL ns ≤ 24 ∧ ρ' = [s, .dat (.int 4), .dat (.int 24), s3, .own (.lst (ns.map .int)), .dat (.int (prodL ns)), s6]) (fun N hN => ?_) (fun ρ hρ => ?_)
  · simp only [wFor, wRng1, wBin, wC, wCall, wCons, wNil, wVar, backS_h1, wSeq, wNext, wIfS, wSetF, wSet, into, wSetIx, wRet, wRetN, wDrop, wB, wBin, wUn, wCB, wCons, wNil, wVar, wC, wIf, wAnd, wOr, DL.wNot, wAndV, wOrV, wNotV, wTup, wLst, wSl, wNoPart, wPart, wChain, wUnp, wgTup, wgCons, wgNil, wName, wIsi, wListRg, wRg1, wRg2, wTupRg, wPuts, puts, Rz.sd, wConsH, wAppend, wExtend, ownL, dI, dI0, dIx, dInt, dAbs, dLen, dMax2, dMin2, dSum, dAll, dAny, dList, dTuple, dAdd, dNeg, dIsN, dNotN, PD.isN, dSl, look, looks, ok, Rz.pd, SD.pd, OD.pd, Rz.cold, Rz.cool, warm, pdsOf, frz, frzAll, leave, argOf, onceB, newBor, isBor, ty_non, ty_bl, ty_int, ty_str, ty_lst, ty_scr, ty_tup, ty_dct, isa, String.reduceBEq, beq_self_eq_true, Bool.false_and, Bool.and_false, Bool.not_true, Bool.or_self, wYes, wCall, backS_0, backS_1, backS_2, backS_3, backS_4, backS_o0, backS_o1, backS_o2, backS_o3, dEq_int, dEq_str, dNeX_int, dNeX_str, List.length_cons, List.length_nil, List.cons_append, List.nil_append, List.replicate, Nat.reduceAdd, Nat.reduceSub, List.getElem?_cons_zero, List.getElem?_cons_succ, Option.bind_some, List.set_cons_zero, List.set_cons_succ, List.map_cons, List.map_nil, List.any_cons, List.any_nil, List.getD_cons_zero, List.getD_cons_succ, true_or, or_true, true_and, and_true, Bool.and_true, Bool.true_and, Bool.or_false, Bool.false_or, Bool.not_false, Bool.not_true, Bool.or_true, Bool.true_or, decide_true, decide_false, wFor, wRng1, wRng2, wLc, wSeqI, items, wEnumX, wCallO, wNever, noOwn, List.all_cons, List.all_nil, wipeS, Bool.and_self, decide_eq_true_eq, atI0a, atI0b, atI0c, atI1b, atI1c, atI2c, wZipX, seqP]
    simp only [e_take, e_of]
    refine take_ok ab hp (by omega) (by decide) (sm_big (by decide)) fun c s' c0 c1 hp => ?_
    obtain ⟨o', rfl⟩ := hp.own
    simp only [backS_h1, wSeq, wNext, wIfS, wSetF, wSet, into, wSetIx, wRet, wRetN, wDrop, wB, wBin, wUn, wCB, wCons, wNil, wVar, wC, wIf, wAnd, wOr, DL.wNot, wAndV, wOrV, wNotV, wTup, wLst, wSl, wNoPart, wPart, wChain, wUnp, wgTup, wgCons, wgNil, wName, wIsi, wListRg, wRg1, wRg2, wTupRg, wPuts, puts, Rz.sd, wConsH, wAppend, wExtend, ownL, dI, dI0, dIx, dInt, dAbs, dLen, dMax2, dMin2, dSum, dAll, dAny, dList, dTuple, dAdd, dNeg, dIsN, dNotN, PD.isN, dSl, look, looks, ok, Rz.pd, SD.pd, OD.pd, Rz.cold, Rz.cool, warm, pdsOf, frz, frzAll, leave, argOf, onceB, newBor, isBor, ty_non, ty_bl, ty_int, ty_str, ty_lst, ty_scr, ty_tup, ty_dct, isa, String.reduceBEq, beq_self_eq_true, Bool.false_and, Bool.and_false, Bool.not_true, Bool.or_self, wYes, wCall, backS_0, backS_1, backS_2, backS_3, backS_4, backS_o0, backS_o1, backS_o2, backS_o3, dEq_int, dEq_str, dNeX_int, dNeX_str, List.length_cons, List.length_nil, List.cons_append, List.nil_append, List.replicate, Nat.reduceAdd, Nat.reduceSub, List.getElem?_cons_zero, List.getElem?_cons_succ, Option.bind_some, List.set_cons_zero, List.set_cons_succ, List.map_cons, List.map_nil, List.any_cons, List.any_nil, List.getD_cons_zero, List.getD_cons_succ, true_or, or_true, true_and, and_true, Bool.and_true, Bool.true_and, Bool.or_false, Bool.false_or, Bool.not_false, Bool.not_true, Bool.or_true, Bool.true_or, decide_true, decide_false, wFor, wRng1, wRng2, wLc, wSeqI, items, wEnumX, wCallO, wNever, noOwn, List.all_cons, List.all_nil, wipeS, Bool.and_self, decide_eq_true_eq, atI0a, atI0b, atI0c, atI1b, atI1c, atI2c, wZipX, seqP]
    refine ⟨⟨by omega, by omega⟩, ?_⟩
    generalize hk : (1 + c).toNat = k
    refine forL_upto (fun t ρ => ∃ s ns s3 s6, Pot (m + 1 + t) s ∧ Bases ns ∧ ns.length ≤ t ∧ (1 ≤ prodL ns ∧ prodL ns ≤ 24) ∧ ρ = [s, .dat (.int 4), .dat (.int 24), s3, .own (.lst (ns.map .int)), .dat (.int (prodL ns)), s6]) _ 0 _ ⟨_, [], _, _, hp.mono (by omega), (fun x hx => nomatch hx), Nat.le_refl _, ⟨by decide, by decide⟩, rfl⟩ (fun t d ρ N2 ht hI hN2 => ?_) (fun ρ hI => ?_)
    · obtain ⟨s, ns, s3, s6, hp, hb, hl, ⟨p1, p2⟩, rfl⟩ := hI
      obtain ⟨rfl, htk⟩ := rg_at ht
      obtain ⟨o2, rfl⟩ := hp.own
      simp only [z5, backS_h1, wSeq, wNext, wIfS, wSetF, wSet, into, wSetIx, wRet, wRetN, wDrop, wB, wBin, wUn, wCB, wCons, wNil, wVar, wC, wIf, wAnd, wOr, DL.wNot, wAndV, wOrV, wNotV, wTup, wLst, wSl, wNoPart, wPart, wChain, wUnp, wgTup, wgCons, wgNil, wName, wIsi, wListRg, wRg1, wRg2, wTupRg, wPuts, puts, Rz.sd, wConsH, wAppend, wExtend, ownL, dI, dI0, dIx, dInt, dAbs, dLen, dMax2, dMin2, dSum, dAll, dAny, dList, dTuple, dAdd, dNeg, dIsN, dNotN, PD.isN, dSl, look, looks, ok, Rz.pd, SD.pd, OD.pd, Rz.cold, Rz.cool, warm, pdsOf, frz, frzAll, leave, argOf, onceB, newBor, isBor, ty_non, ty_bl, ty_int, ty_str, ty_lst, ty_scr, ty_tup, ty_dct, isa, String.reduceBEq, beq_self_eq_true, Bool.false_and, Bool.and_false, Bool.not_true, Bool.or_self, wYes, wCall, backS_0, backS_1, backS_2, backS_3, backS_4, backS_o0, backS_o1, backS_o2, backS_o3, dEq_int, dEq_str, dNeX_int, dNeX_str, List.length_cons, List.length_nil, List.cons_append, List.nil_append, List.replicate, Nat.reduceAdd, Nat.reduceSub, List.getElem?_cons_zero, List.getElem?_cons_succ, Option.bind_some, List.set_cons_zero, List.set_cons_succ, List.map_cons, List.map_nil, List.any_cons, List.any_nil, List.getD_cons_zero, List.getD_cons_succ, true_or, or_true, true_and, and_true, Bool.and_true, Bool.true_and, Bool.or_false, Bool.false_or, Bool.not_false, Bool.not_true, Bool.or_true, Bool.true_or, decide_true, decide_false, wFor, wRng1, wRng2, wLc, wSeqI, items, wEnumX, wCallO, wNever, noOwn, List.all_cons, List.all_nil, wipeS, Bool.and_self, decide_eq_true_eq, atI0a, atI0b, atI0c, atI1b, atI1c, atI2c, wZipX, seqP]
      refine ⟨.inr ⟨_, rfl⟩, of_ok ab hp (by omega) (Nat.zero_lt_succ _) (by simp) fun x s' hx hp => ?_⟩
      have hx : ∃ v : Int, x = .int v ∧ 2 ≤ v ∧ v ≤ 4 := by
        simp only [List.mem_cons, List.not_mem_nil, or_false] at hx
        rcases hx with rfl | rfl | rfl | rfl | rfl
        · exact ⟨_, rfl, by decide, by decide⟩
        · exact ⟨_, rfl, by decide, by decide⟩
        · exact ⟨_, rfl, by decide, by decide⟩
        · exact ⟨_, rfl, by decide, by decide⟩
        · exact ⟨_, rfl, by decide, by decide⟩
      obtain ⟨v, rfl, v0, v1⟩ := hx
      obtain ⟨o3, rfl⟩ := hp.own
      simp only [backS_h1, wSeq, wNext, wIfS, wSetF, wSet, into, wSetIx, wRet, wRetN, wDrop, wB, wBin, wUn, wCB, wCons, wNil, wVar, wC, wIf, wAnd, wOr, DL.wNot, wAndV, wOrV, wNotV, wTup, wLst, wSl, wNoPart, wPart, wChain, wUnp, wgTup, wgCons, wgNil, wName, wIsi, wListRg, wRg1, wRg2, wTupRg, wPuts, puts, Rz.sd, wConsH, wAppend, wExtend, ownL, dI, dI0, dIx, dInt, dAbs, dLen, dMax2, dMin2, dSum, dAll, dAny, dList, dTuple, dAdd, dNeg, dIsN, dNotN, PD.isN, dSl, look, looks, ok, Rz.pd, SD.pd, OD.pd, Rz.cold, Rz.cool, warm, pdsOf, frz, frzAll, leave, argOf, onceB, newBor, isBor, ty_non, ty_bl, ty_int, ty_str, ty_lst, ty_scr, ty_tup, ty_dct, isa, String.reduceBEq, beq_self_eq_true, Bool.false_and, Bool.and_false, Bool.not_true, Bool.or_self, wYes, wCall, backS_0, backS_1, backS_2, backS_3, backS_4, backS_o0, backS_o1, backS_o2, backS_o3, dEq_int, dEq_str, dNeX_int, dNeX_str, List.length_cons, List.length_nil, List.cons_append, List.nil_append, List.replicate, Nat.reduceAdd, Nat.reduceSub, List.getElem?_cons_zero, List.getElem?_cons_succ, Option.bind_some, List.set_cons_zero, List.set_cons_succ, List.map_cons, List.map_nil, List.any_cons, List.any_nil, List.getD_cons_zero, List.getD_cons_succ, true_or, or_true, true_and, and_true, Bool.and_true, Bool.true_and, Bool.or_false, Bool.false_or, Bool.not_false, Bool.not_true, Bool.or_true, Bool.true_or, decide_true, decide_false, wFor, wRng1, wRng2, wLc, wSeqI, items, wEnumX, wCallO, wNever, noOwn, List.all_cons, List.all_nil, wipeS, Bool.and_self, decide_eq_true_eq, atI0a, atI0b, atI0c, atI1b, atI1c, atI2c, wZipX, seqP]
      refine ⟨mulX (sm_big (by omega)) (sm_big (by omega)), ?_⟩
      by_cases big : 24 < prodL ns * v
      · simp only [decide_eq_true big, wBreak]
        exact hN _ ⟨_, ns, _, _, hp.mono (by omega), hb, by omega, p2, rfl⟩
      · simp only [decide_eq_false big, wSeq, wNext, wIfS, wSetF, wSet, into, wSetIx, wRet, wRetN, wDrop, wB, wBin, wUn, wCB, wCons, wNil, wVar, wC, wIf, wAnd, wOr, DL.wNot, wAndV, wOrV, wNotV, wTup, wLst, wSl, wNoPart, wPart, wChain, wUnp, wgTup, wgCons, wgNil, wName, wIsi, wListRg, wRg1, wRg2, wTupRg, wPuts, puts, Rz.sd, wConsH, wAppend, wExtend, ownL, dI, dI0, dIx, dInt, dAbs, dLen, dMax2, dMin2, dSum, dAll, dAny, dList, dTuple, dAdd, dNeg, dIsN, dNotN, PD.isN, dSl, look, looks, ok, Rz.pd, SD.pd, OD.pd, Rz.cold, Rz.cool, warm, pdsOf, frz, frzAll, leave, argOf, onceB, newBor, isBor, ty_non, ty_bl, ty_int, ty_str, ty_lst, ty_scr, ty_tup, ty_dct, isa, String.reduceBEq, beq_self_eq_true, Bool.false_and, Bool.and_false, Bool.not_true, Bool.or_self, wYes, wCall, backS_0, backS_1, backS_2, backS_3, backS_4, backS_o0, backS_o1, backS_o2, backS_o3, dEq_int, dEq_str, dNeX_int, dNeX_str, List.length_cons, List.length_nil, List.cons_append, List.nil_append, List.replicate, Nat.reduceAdd, Nat.reduceSub, List.getElem?_cons_zero, List.getElem?_cons_succ, Option.bind_some, List.set_cons_zero, List.set_cons_succ, List.map_cons, List.map_nil, List.any_cons, List.any_nil, List.getD_cons_zero, List.getD_cons_succ, true_or, or_true, true_and, and_true, Bool.and_true, Bool.true_and, Bool.or_false, Bool.false_or, Bool.not_false, Bool.not_true, Bool.or_true, Bool.true_or, decide_true, decide_false, wFor, wRng1, wRng2, wLc, wSeqI, items, wEnumX, wCallO, wNever, noOwn, List.all_cons, List.all_nil, wipeS, Bool.and_self, decide_eq_true_eq, atI0a, atI0b, atI0c, atI1b, atI1c, atI2c, wZipX, seqP]
        refine ⟨by rw [List.length_map]; exact sz' (by omega), mulX (sm_big (by omega)) (sm_big (by omega)), ?_⟩
        refine hN2 _ ⟨_, ns ++ [v], .dat (.int (t : Int)), .dat (.int v), hp.mono (by omega), fun x hx => ?_, by rw [List.length_append, List.length_cons, List.length_nil]; omega, ?_, ?_⟩
        · rcases List.mem_append.mp hx with hx | hx
          · exact hb x hx
          · rw [List.mem_singleton] at hx; subst hx; exact ⟨v0, v1⟩
        · rw [prod_snoc]
          refine ⟨?_, by omega⟩
          have := Int.mul_le_mul p1 v0 (by omega) (by omega)
          omega
        · rw [prod_snoc, List.map_append]
          rfl
    · obtain ⟨s, ns, s3, s6, hp, hb, hl, ⟨p1, p2⟩, rfl⟩ := hI
      rw [rg_len] at hp hl
      exact hN _ ⟨s, ns, s3, s6, hp.mono (by omega), hb, by omega, p2, rfl⟩
  · obtain ⟨s, ns, s3, s6, hp, hb, hl, hpr, rfl⟩ := hρ
    obtain ⟨o, rfl⟩ := hp.own
    simp only [wSeq, wNext, wIfS, wSetF, wSet, into, wSetIx, wRet, wRetN, wDrop, wB, wBin, wUn, wCB, wCons, wNil, wVar, wC, wIf, wAnd, wOr, DL.wNot, wAndV, wOrV, wNotV, wTup, wLst, wSl, wNoPart, wPart, wChain, wUnp, wgTup, wgCons, wgNil, wName, wIsi, wListRg, wRg1, wRg2, wTupRg, wPuts, puts, Rz.sd, wConsH, wAppend, wExtend, ownL, dI, dI0, dIx, dInt, dAbs, dLen, dMax2, dMin2, dSum, dAll, dAny, dList, dTuple, dAdd, dNeg, dIsN, dNotN, PD.isN, dSl, look, looks, ok, Rz.pd, SD.pd, OD.pd, Rz.cold, Rz.cool, warm, pdsOf, frz, frzAll, leave, argOf, onceB, newBor, isBor, ty_non, ty_bl, ty_int, ty_str, ty_lst, ty_scr, ty_tup, ty_dct, isa, String.reduceBEq, beq_self_eq_true, Bool.false_and, Bool.and_false, Bool.not_true, Bool.or_self, wYes, wCall, backS_0, backS_1, backS_2, backS_3, backS_4, backS_o0, backS_o1, backS_o2, backS_o3, dEq_int, dEq_str, dNeX_int, dNeX_str, List.length_cons, List.length_nil, List.cons_append, List.nil_append, List.replicate, Nat.reduceAdd, Nat.reduceSub, List.getElem?_cons_zero, List.getElem?_cons_succ, Option.bind_some, List.set_cons_zero, List.set_cons_succ, List.map_cons, List.map_nil, List.any_cons, List.any_nil, List.getD_cons_zero, List.getD_cons_succ, true_or, or_true, true_and, and_true, Bool.and_true, Bool.true_and, Bool.or_false, Bool.false_or, Bool.not_false, Bool.not_true, Bool.or_true, Bool.true_or, decide_true, decide_false, wFor, wRng1, wRng2, wLc, wSeqI, items, wEnumX, wCallO, wNever, noOwn, List.all_cons, List.all_nil, wipeS, Bool.and_self, decide_eq_true_eq, atI0a, atI0b, atI0c, atI1b, atI1c, atI2c, wZipX, seqP]
    refine ⟨Nat.zero_le _, dNe_nil ?_⟩
    cases ns with
    | nil =>
      simp only [List.isEmpty_nil, z1, wSeq, wNext, wIfS, wSetF, wSet, into, wSetIx, wRet, wRetN, wDrop, wB, wBin, wUn, wCB, wCons, wNil, wVar, wC, wIf, wAnd, wOr, DL.wNot, wAndV, wOrV, wNotV, wTup, wLst, wSl, wNoPart, wPart, wChain, wUnp, wgTup, wgCons, wgNil, wName, wIsi, wListRg, wRg1, wRg2, wTupRg, wPuts, puts, Rz.sd, wConsH, wAppend, wExtend, ownL, dI, dI0, dIx, dInt, dAbs, dLen, dMax2, dMin2, dSum, dAll, dAny, dList, dTuple, dAdd, dNeg, dIsN, dNotN, PD.isN, dSl, look, looks, ok, Rz.pd, SD.pd, OD.pd, Rz.cold, Rz.cool, warm, pdsOf, frz, frzAll, leave, argOf, onceB, newBor, isBor, ty_non, ty_bl, ty_int, ty_str, ty_lst, ty_scr, ty_tup, ty_dct, isa, String.reduceBEq, beq_self_eq_true, Bool.false_and, Bool.and_false, Bool.not_true, Bool.or_self, wYes, wCall, backS_0, backS_1, backS_2, backS_3, backS_4, backS_o0, backS_o1, backS_o2, backS_o3, dEq_int, dEq_str, dNeX_int, dNeX_str, List.length_cons, List.length_nil, List.cons_append, List.nil_append, List.replicate, Nat.reduceAdd, Nat.reduceSub, List.getElem?_cons_zero, List.getElem?_cons_succ, Option.bind_some, List.set_cons_zero, List.set_cons_succ, List.map_cons, List.map_nil, List.any_cons, List.any_nil, List.getD_cons_zero, List.getD_cons_succ, true_or, or_true, true_and, and_true, Bool.and_true, Bool.true_and, Bool.or_false, Bool.false_or, Bool.not_false, Bool.not_true, Bool.or_true, Bool.true_or, decide_true, decide_false, wFor, wRng1, wRng2, wLc, wSeqI, items, wEnumX, wCallO, wNever, noOwn, List.all_cons, List.all_nil, wipeS, Bool.and_self, decide_eq_true_eq, atI0a, atI0b, atI0c, atI1b, atI1c, atI2c, wZipX, seqP]
      exact h [2] _ (fun x hx => by rw [List.mem_singleton] at hx; subst hx; exact ⟨by decide, by decide⟩) (by decide) (by decide) (by decide) hp
    | cons b bs =>
      simp only [List.isEmpty_cons, wSeq, wNext, wIfS, wSetF, wSet, into, wSetIx, wRet, wRetN, wDrop, wB, wBin, wUn, wCB, wCons, wNil, wVar, wC, wIf, wAnd, wOr, DL.wNot, wAndV, wOrV, wNotV, wTup, wLst, wSl, wNoPart, wPart, wChain, wUnp, wgTup, wgCons, wgNil, wName, wIsi, wListRg, wRg1, wRg2, wTupRg, wPuts, puts, Rz.sd, wConsH, wAppend, wExtend, ownL, dI, dI0, dIx, dInt, dAbs, dLen, dMax2, dMin2, dSum, dAll, dAny, dList, dTuple, dAdd, dNeg, dIsN, dNotN, PD.isN, dSl, look, looks, ok, Rz.pd, SD.pd, OD.pd, Rz.cold, Rz.cool, warm, pdsOf, frz, frzAll, leave, argOf, onceB, newBor, isBor, ty_non, ty_bl, ty_int, ty_str, ty_lst, ty_scr, ty_tup, ty_dct, isa, String.reduceBEq, beq_self_eq_true, Bool.false_and, Bool.and_false, Bool.not_true, Bool.or_self, wYes, wCall, backS_0, backS_1, backS_2, backS_3, backS_4, backS_o0, backS_o1, backS_o2, backS_o3, dEq_int, dEq_str, dNeX_int, dNeX_str, List.length_cons, List.length_nil, List.cons_append, List.nil_append, List.replicate, Nat.reduceAdd, Nat.reduceSub, List.getElem?_cons_zero, List.getElem?_cons_succ, Option.bind_some, List.set_cons_zero, List.set_cons_succ, List.map_cons, List.map_nil, List.any_cons, List.any_nil, List.getD_cons_zero, List.getD_cons_succ, true_or, or_true, true_and, and_true, Bool.and_true, Bool.true_and, Bool.or_false, Bool.false_or, Bool.not_false, Bool.not_true, Bool.or_true, Bool.true_or, decide_true, decide_false, wFor, wRng1, wRng2, wLc, wSeqI, items, wEnumX, wCallO, wNever, noOwn, List.all_cons, List.all_nil, wipeS, Bool.and_self, decide_eq_true_eq, atI0a, atI0b, atI0c, atI1b, atI1c, atI2c, wZipX, seqP]
      exact h (b :: bs) _ hb (by simp) hl hpr hp
end Lk

set_option Elab.async false
set_option linter.all false
set_option maxRecDepth 100000
set_option maxHeartbeats 4000000
set_option exponentiation.threshold 3000
namespace Lk
open PySem L2 DL
/-! ### all small devices by figures, one by one -/
def ruleF (ns : List Int) (k : Nat) : List (List Int) := (List.range k).map fun (i : Nat) => figs ns 1 (i : Int)
/-- every row has a lane at every stage, what lies ahead is small -/
def shapeB (dev rule : List (List Int)) : Bool :=
  decide (dev.length ≤ 4) && decide (1 ≤ rule.length) && decide (rule.length ≤ 30) &&
  rule.all fun row => (decide (row.length = dev.length) && (dev.zip row).all fun q => decide (0 ≤ q.2) && decide (q.2 < q.1.length)) && (ah dev row 0).all fun v => decide (0 ≤ v) && decide (v ≤ 1000)
def wordsB : List Str := ["queue", "order", "any"]
def dueB (ns : List Int) (k : Nat) (w : Str) (n : Int) : Bool := !((allOf (ownF ns 1) (ruleF ns k) "any" 4).any fun q => canB w n ((k : Int) - 1) q.1 q.2.1 q.2.2.1)
def dueAll (ns : List Int) (k : Nat) : Bool :=
  let ps := allOf (ownF ns 1) (ruleF ns k) "any" 4
  wordsB.all fun w => [1, 2, 3, 4].all fun n => (!(ps.any fun q => canB w n ((k : Int) - 1) q.1 q.2.1 q.2.2.1)) == Served w n ns
/-- the reach of bases -/
def reach (ns : List Int) : Nat := (W ns ns.length).toNat
def checkB (ns : List Int) : Bool := shapeB (ownF ns 1) (ruleF ns (reach ns)) && ((wts ns 1).all fun w => decide (w ≤ 1000)) && dueAll ns (reach ns)
/-- all bases of so many stages -/
def basesB : Nat → List (List Int)
  | 0 => [[]]
  | k + 1 => (basesB k).flatMap fun ns => [2, 3, 4].map fun b => b :: ns
theorem mem_basesB : ∀ (ns : List Int), Bases ns → ns ∈ basesB ns.length
  | [], _ => by simp [basesB]
  | b :: ns, h => by
    obtain ⟨b1, b2⟩ := h b List.mem_cons_self
    have ih := mem_basesB ns fun c hc => h c (List.mem_cons_of_mem _ hc)
    rw [List.length_cons, basesB, List.mem_flatMap]
    refine ⟨ns, ih, ?_⟩
    have : b = 2 ∨ b = 3 ∨ b = 4 := by omega
    rcases this with rfl | rfl | rfl <;> simp
def goodB (k : Nat) : Bool := (basesB k).all fun ns => decide (24 < prodL ns) || checkB ns
theorem good1 : goodB 1 = true := by decide +kernel
theorem good2 : goodB 2 = true := by decide +kernel
theorem good3 : goodB 3 = true := by decide +kernel
theorem good4 : goodB 4 = true := by decide +kernel
end Lk

set_option Elab.async false
set_option linter.all false
set_option maxRecDepth 100000
set_option maxHeartbeats 4000000
set_option exponentiation.threshold 3000
namespace Lk
open PySem L2 DL
theorem good_all {ns : List Int} (hb : Bases ns) (h1 : 1 ≤ ns.length) (h4 : ns.length ≤ 4) (hp : prodL ns ≤ 24) : checkB ns = true := by
  have hg : goodB ns.length = true := by
    have : ns.length = 1 ∨ ns.length = 2 ∨ ns.length = 3 ∨ ns.length = 4 := by omega
    rcases this with e | e | e | e <;> rw [e]
    · exact good1
    · exact good2
    · exact good3
    · exact good4
  have := List.all_eq_true.mp hg ns (mem_basesB ns hb)
  rw [Bool.or_eq_true, decide_eq_true_eq] at this
  rcases this with h | h
  · omega
  · exact h
theorem getD_in {rows : List (List Int)} (h : ∀ r ∈ rows, ∀ v ∈ r, (0 : Int) ≤ v ∧ v ≤ 1000) (x s : Nat) : 0 ≤ (rows.getD x []).getD s 0 ∧ (rows.getD x []).getD s 0 ≤ 1000 := by
  rw [List.getD_eq_getElem?_getD, List.getD_eq_getElem?_getD]
  cases hx : rows[x]? with
  | none => simp
  | some r =>
    have hr := h r (List.mem_of_getElem? hx)
    show 0 ≤ (r[s]?).getD 0 ∧ (r[s]?).getD 0 ≤ 1000
    cases hs : r[s]? with
    | none => simp
    | some v => exact hr v (List.mem_of_getElem? hs)
theorem facts {ns : List Int} (hb : Bases ns) (h1 : 1 ≤ ns.length) (h4 : ns.length ≤ 4) (hp : prodL ns ≤ 24) :
    Ok25 (ownF ns 1) (ruleF ns (reach ns)) ∧ (∀ w ∈ wts ns 1, w < 2 ^ 100) ∧ (∀ w n, Sv w n → dueB ns (reach ns) w n = Served w n ns) ∧ (ownF ns 1).length ≤ 4 ∧ (ruleF ns (reach ns)).length ≤ 30 := by
  have hc := good_all hb h1 h4 hp
  unfold checkB at hc
  rw [Bool.and_eq_true, Bool.and_eq_true] at hc
  obtain ⟨⟨c1, c2⟩, c3⟩ := hc
  unfold shapeB at c1
  simp only [Bool.and_eq_true, decide_eq_true_eq, List.all_eq_true] at c1
  obtain ⟨⟨⟨d1, d2⟩, d3⟩, d4⟩ := c1
  refine ⟨⟨by omega, ⟨d2, by omega⟩, fun row hr => ⟨fun q hq => (d4 row hr).1.2 q hq, (d4 row hr).1.1⟩, fun x y s => ?_⟩, fun w hw => ?_, fun w n hs => ?_, d1, d3⟩
  · have hall : ∀ r ∈ (ruleF ns (reach ns)).map (fun r => ah (ownF ns 1) r 0), ∀ v ∈ r, (0 : Int) ≤ v ∧ v ≤ 1000 := fun r hr => by
      obtain ⟨r', hr', rfl⟩ := List.mem_map.mp hr
      exact (d4 r' hr').2
    have a := getD_in hall x s
    have b := getD_in hall y s
    unfold Aq
    exact sm_big (by omega)
  · have := decide_eq_true_eq.mp (List.all_eq_true.mp c2 w hw)
    exact Int.lt_of_le_of_lt this (by decide)
  · unfold dueAll at c3
    obtain ⟨hw, n1, n2⟩ := hs
    have m1 : w ∈ wordsB := by
      unfold wordsB
      rcases hw with rfl | rfl | rfl <;> simp
    have m2 : n ∈ [(1 : Int), 2, 3, 4] := by
      have : n = 1 ∨ n = 2 ∨ n = 3 ∨ n = 4 := by omega
      rcases this with rfl | rfl | rfl | rfl <;> simp
    have := List.all_eq_true.mp (List.all_eq_true.mp c3 w m1) n m2
    unfold dueB
    exact eq_of_beq this
def svcs : List (Str × Int) := wordsB.flatMap fun w => [(1 : Int), 2, 3, 4].map fun n => (w, n)
theorem svcs_sv : ∀ p ∈ svcs, Sv p.1 p.2 := fun p hp => by
  unfold svcs wordsB at hp
  simp only [List.flatMap_cons, List.flatMap_nil, List.map_cons, List.map_nil, List.cons_append, List.nil_append, List.mem_cons, List.not_mem_nil, or_false] at hp
  rcases hp with rfl | rfl | rfl | rfl | rfl | rfl | rfl | rfl | rfl | rfl | rfl | rfl <;> exact ⟨by first | exact .inl rfl | exact .inr (.inl rfl) | exact .inr (.inr rfl), by decide, by decide⟩
abbrev svP : List PD := svcs.map fun p => sv p.1 p.2
theorem dNeX_bl {a b : Bool} {k : Rz → Prop} : dNeX (.bl a) (.bl b) k = k (.dat (.bl (!(a == b)))) := by
  show dNe (.bl a) (.bl b) k = _
  unfold dNe
  have e : PyData.eqv (PD.bl a).py (PD.bl b).py = (a == b) := by simp only [PD.py, PyData.eqv]
  rw [e]
  simp [cmp_bl]
def tf (b : Bool) : Str := if b then "True" else "False"
theorem tf_ok (b : Bool) : PyData.strOk (tf b) = true := by cases b <;> decide +kernel
theorem dRepr_bl {b : Bool} {k : Rz → Prop} : dReprX [.bl b] k = k (.dat (.str (tf b))) := by
  have e : (PD.bl b).py.shown = tf b := by
    rw [PD.py, PyData.shown_bool]
    cases b <;> rfl
  have z : showOk (.bl b) := by
    refine ⟨rfl, ?_, ?_, ?_, ?_⟩
    · cases b <;> simp [PD.py, PyData.showable]
    · cases b <;> simp [PD.py, PyData.hasDict]
    · cases b <;> simp [PD.py, PyData.depth]
    · rw [e]
      refine Nat.le_trans ?_ (sz (n := 5) (by decide))
      cases b <;> decide +kernel
  show (showOk (.bl b) ∧ k (.dat (.str (PD.bl b).py.shown))) = _
  rw [e]
  simp [z]
theorem bools_map {α : Type} (f : α → Bool) : ∀ xs : List α, bools (xs.map fun x => .bl (f x)) = some (xs.map f)
  | [] => rfl
  | x :: xs => by
    show (match bools (xs.map fun x => .bl (f x)) with | some ns => some (f x :: ns) | none => none) = _
    rw [bools_map f xs]; rfl
/-- the slots of the law -/
def R19 (s D1 s2 s3 s4 s5 s6 s7 s8 s9 s10 : SD) : Sl := [s, D1, s2, s3, s4, s5, s6, s7, s8, s9, s10, .emp, .emp, .emp, .emp, .emp, .emp, .emp, .emp]
def SvD (D : SD) : Prop := D = .own (.lst svP) ∨ D = .dat (.lst svP)
def G19 (m : Int) (ρ : Sl) : Prop := ∃ s D1 s2 s3 s4 s5 s6 s7 s8 s9 s10, Pot m s ∧ SvD D1 ∧ ρ = R19 s D1 s2 s3 s4 s5 s6 s7 s8 s9 s10
theorem services_ok {s : SD} {O : On} (h : ∀ s2, O.nx (R19 s (.own (.lst svP)) s2 .emp .emp .emp .emp .emp .emp .emp .emp)) :
    (wFor (wSeqI (wTup (wCons (wC (.str "queue")) (wCons (wC (.str "order")) (wCons (wC (.str "any")) wNil))))) (wName 2) (wDrop (wExtend 1 (wCons (wLc [12] (wSeqI (wTup (wCons (wC (.int 1)) (wCons (wC (.int 2)) (wCons (wC (.int 3)) (wCons (wC (.int 4)) wNil)))))) (wName 12) wYes (wTup (wCons (wVar 2) (wCons (wVar 12) wNil)))) wNil)))) O (R19 s (.own (.lst [])) .emp .emp .emp .emp .emp .emp .emp .emp .emp) := by
  have z2 : (2 : Nat) ≤ sizeLine := sz (by decide)
  have z3 : (3 : Nat) ≤ sizeLine := sz (by decide)
  have z4 : (4 : Nat) ≤ sizeLine := sz (by decide)
  simp only [R19, z3, wSeq, wNext, wIfS, wSetF, wSet, into, wSetIx, wRet, wRetN, wDrop, wB, wBin, wUn, wCB, wCons, wNil, wVar, wC, wIf, wAnd, wOr, DL.wNot, wAndV, wOrV, wNotV, wTup, wLst, wSl, wNoPart, wPart, wChain, wUnp, wgTup, wgCons, wgNil, wName, wIsi, wListRg, wRg1, wRg2, wTupRg, wPuts, puts, Rz.sd, wConsH, wAppend, wExtend, ownL, dI, dI0, dIx, dInt, dAbs, dLen, dMax2, dMin2, dSum, dAll, dAny, dList, dTuple, dAdd, dNeg, dIsN, dNotN, PD.isN, dSl, look, looks, ok, Rz.pd, SD.pd, OD.pd, Rz.cold, Rz.cool, warm, pdsOf, frz, frzAll, leave, argOf, onceB, newBor, isBor, ty_non, ty_bl, ty_int, ty_str, ty_lst, ty_scr, ty_tup, ty_dct, isa, String.reduceBEq, beq_self_eq_true, Bool.false_and, Bool.and_false, Bool.not_true, Bool.or_self, wYes, wCall, backS_0, backS_1, backS_2, backS_3, backS_4, backS_o0, backS_o1, backS_o2, backS_o3, dEq_int, dEq_str, dNeX_int, dNeX_str, List.length_cons, List.length_nil, List.cons_append, List.nil_append, List.replicate, Nat.reduceAdd, Nat.reduceSub, List.getElem?_cons_zero, List.getElem?_cons_succ, Option.bind_some, List.set_cons_zero, List.set_cons_succ, List.map_cons, List.map_nil, List.any_cons, List.any_nil, List.getD_cons_zero, List.getD_cons_succ, true_or, or_true, true_and, and_true, Bool.and_true, Bool.true_and, Bool.or_false, Bool.false_or, Bool.not_false, Bool.not_true, Bool.or_true, Bool.true_or, decide_true, decide_false, wFor, wRng1, wRng2, wLc, wSeqI, items, wEnumX, wCallO, wNever, noOwn, List.all_cons, List.all_nil, wipeS, Bool.and_self, decide_eq_true_eq, atI0a, atI0b, atI0c, atI1b, atI1c, atI2c, wZipX, seqP]
  refine forL_upto (fun k ρ => ∃ s2, ρ = R19 s (.own (.lst (svP.take (4 * k)))) s2 .emp .emp .emp .emp .emp .emp .emp .emp) _ 0 _ ⟨_, rfl⟩ (fun k d ρ N hj hI hN => ?_) (fun ρ hI => ?_)
  · obtain ⟨s2, rfl⟩ := hI
    rw [Nat.zero_add] at hN ⊢
    have hk : k < 3 := (List.getElem?_eq_some_iff.mp hj).1
    have : ∃ w : Str, d = .str w ∧ svP.take (4 * (k + 1)) = svP.take (4 * k) ++ [1, 2, 3, 4].map fun n => sv w n := by
      have : k = 0 ∨ k = 1 ∨ k = 2 := by omega
      rcases this with rfl | rfl | rfl <;> exact ⟨_, (Option.some.inj hj).symm, rfl⟩
    obtain ⟨w, rfl, e⟩ := this
    simp only [R19, z4, wSeq, wNext, wIfS, wSetF, wSet, into, wSetIx, wRet, wRetN, wDrop, wB, wBin, wUn, wCB, wCons, wNil, wVar, wC, wIf, wAnd, wOr, DL.wNot, wAndV, wOrV, wNotV, wTup, wLst, wSl, wNoPart, wPart, wChain, wUnp, wgTup, wgCons, wgNil, wName, wIsi, wListRg, wRg1, wRg2, wTupRg, wPuts, puts, Rz.sd, wConsH, wAppend, wExtend, ownL, dI, dI0, dIx, dInt, dAbs, dLen, dMax2, dMin2, dSum, dAll, dAny, dList, dTuple, dAdd, dNeg, dIsN, dNotN, PD.isN, dSl, look, looks, ok, Rz.pd, SD.pd, OD.pd, Rz.cold, Rz.cool, warm, pdsOf, frz, frzAll, leave, argOf, onceB, newBor, isBor, ty_non, ty_bl, ty_int, ty_str, ty_lst, ty_scr, ty_tup, ty_dct, isa, String.reduceBEq, beq_self_eq_true, Bool.false_and, Bool.and_false, Bool.not_true, Bool.or_self, wYes, wCall, backS_0, backS_1, backS_2, backS_3, backS_4, backS_o0, backS_o1, backS_o2, backS_o3, dEq_int, dEq_str, dNeX_int, dNeX_str, List.length_cons, List.length_nil, List.cons_append, List.nil_append, List.replicate, Nat.reduceAdd, Nat.reduceSub, List.getElem?_cons_zero, List.getElem?_cons_succ, Option.bind_some, List.set_cons_zero, List.set_cons_succ, List.map_cons, List.map_nil, List.any_cons, List.any_nil, List.getD_cons_zero, List.getD_cons_succ, true_or, or_true, true_and, and_true, Bool.and_true, Bool.true_and, Bool.or_false, Bool.false_or, Bool.not_false, Bool.not_true, Bool.or_true, Bool.true_or, decide_true, decide_false, wFor, wRng1, wRng2, wLc, wSeqI, items, wEnumX, wCallO, wNever, noOwn, List.all_cons, List.all_nil, wipeS, Bool.and_self, decide_eq_true_eq, atI0a, atI0b, atI0c, atI1b, atI1c, atI2c, wZipX, seqP]
    refine compL_same (g := fun d => match d with | .int n => sv w n | _ => .non) (by simp) (fun d hd acc N' hacc hN' => ?_) ?_
    · have hd : ∃ n : Int, d = .int n := by
        simp only [List.mem_cons, List.not_mem_nil, or_false] at hd
        rcases hd with rfl | rfl | rfl | rfl <;> exact ⟨_, rfl⟩
      obtain ⟨n, rfl⟩ := hd
      simp only [z2, wSeq, wNext, wIfS, wSetF, wSet, into, wSetIx, wRet, wRetN, wDrop, wB, wBin, wUn, wCB, wCons, wNil, wVar, wC, wIf, wAnd, wOr, DL.wNot, wAndV, wOrV, wNotV, wTup, wLst, wSl, wNoPart, wPart, wChain, wUnp, wgTup, wgCons, wgNil, wName, wIsi, wListRg, wRg1, wRg2, wTupRg, wPuts, puts, Rz.sd, wConsH, wAppend, wExtend, ownL, dI, dI0, dIx, dInt, dAbs, dLen, dMax2, dMin2, dSum, dAll, dAny, dList, dTuple, dAdd, dNeg, dIsN, dNotN, PD.isN, dSl, look, looks, ok, Rz.pd, SD.pd, OD.pd, Rz.cold, Rz.cool, warm, pdsOf, frz, frzAll, leave, argOf, onceB, newBor, isBor, ty_non, ty_bl, ty_int, ty_str, ty_lst, ty_scr, ty_tup, ty_dct, isa, String.reduceBEq, beq_self_eq_true, Bool.false_and, Bool.and_false, Bool.not_true, Bool.or_self, wYes, wCall, backS_0, backS_1, backS_2, backS_3, backS_4, backS_o0, backS_o1, backS_o2, backS_o3, dEq_int, dEq_str, dNeX_int, dNeX_str, List.length_cons, List.length_nil, List.cons_append, List.nil_append, List.replicate, Nat.reduceAdd, Nat.reduceSub, List.getElem?_cons_zero, List.getElem?_cons_succ, Option.bind_some, List.set_cons_zero, List.set_cons_succ, List.map_cons, List.map_nil, List.any_cons, List.any_nil, List.getD_cons_zero, List.getD_cons_succ, true_or, or_true, true_and, and_true, Bool.and_true, Bool.true_and, Bool.or_false, Bool.false_or, Bool.not_false, Bool.not_true, Bool.or_true, Bool.true_or, decide_true, decide_false, wFor, wRng1, wRng2, wLc, wSeqI, items, wEnumX, wCallO, wNever, noOwn, List.all_cons, List.all_nil, wipeS, Bool.and_self, decide_eq_true_eq, atI0a, atI0b, atI0c, atI1b, atI1c, atI2c, wZipX, seqP]
      exact ⟨hacc, hN'⟩
    · simp only [restore, wSeq, wNext, wIfS, wSetF, wSet, into, wSetIx, wRet, wRetN, wDrop, wB, wBin, wUn, wCB, wCons, wNil, wVar, wC, wIf, wAnd, wOr, DL.wNot, wAndV, wOrV, wNotV, wTup, wLst, wSl, wNoPart, wPart, wChain, wUnp, wgTup, wgCons, wgNil, wName, wIsi, wListRg, wRg1, wRg2, wTupRg, wPuts, puts, Rz.sd, wConsH, wAppend, wExtend, ownL, dI, dI0, dIx, dInt, dAbs, dLen, dMax2, dMin2, dSum, dAll, dAny, dList, dTuple, dAdd, dNeg, dIsN, dNotN, PD.isN, dSl, look, looks, ok, Rz.pd, SD.pd, OD.pd, Rz.cold, Rz.cool, warm, pdsOf, frz, frzAll, leave, argOf, onceB, newBor, isBor, ty_non, ty_bl, ty_int, ty_str, ty_lst, ty_scr, ty_tup, ty_dct, isa, String.reduceBEq, beq_self_eq_true, Bool.false_and, Bool.and_false, Bool.not_true, Bool.or_self, wYes, wCall, backS_0, backS_1, backS_2, backS_3, backS_4, backS_o0, backS_o1, backS_o2, backS_o3, dEq_int, dEq_str, dNeX_int, dNeX_str, List.length_cons, List.length_nil, List.cons_append, List.nil_append, List.replicate, Nat.reduceAdd, Nat.reduceSub, List.getElem?_cons_zero, List.getElem?_cons_succ, Option.bind_some, List.set_cons_zero, List.set_cons_succ, List.map_cons, List.map_nil, List.any_cons, List.any_nil, List.getD_cons_zero, List.getD_cons_succ, true_or, or_true, true_and, and_true, Bool.and_true, Bool.true_and, Bool.or_false, Bool.false_or, Bool.not_false, Bool.not_true, Bool.or_true, Bool.true_or, decide_true, decide_false, wFor, wRng1, wRng2, wLc, wSeqI, items, wEnumX, wCallO, wNever, noOwn, List.all_cons, List.all_nil, wipeS, Bool.and_self, decide_eq_true_eq, atI0a, atI0b, atI0c, atI1b, atI1c, atI2c, wZipX, seqP]
      refine ⟨.inr ⟨_, rfl⟩, sz ?_, hN _ ⟨.dat (.str w), ?_⟩⟩
      · rw [List.length_take]; simp
        omega
      · rw [e]; rfl
  · obtain ⟨s2, rfl⟩ := hI
    exact h s2
end Lk

set_option Elab.async false
set_option linter.all false
set_option maxRecDepth 100000
set_option maxHeartbeats 4000000
set_option exponentiation.threshold 3000
namespace Lk
open PySem L2 DL
abbrev q3 (q : Int × Int × Int × Int) : PD := .tup [.int q.1, .int q.2.1, .int q.2.2.1]
/-- the pairs of a device by figures, in their order -/
def sorted4 (ps : List (Int × Int × Int × Int)) : List (Int × Int × Int × Int) := ps.mergeSort fun a b => leD (q4 a) (q4 b)
theorem sorted4_map (ps : List (Int × Int × Int × Int)) : (ps.map q4).mergeSort leD = (sorted4 ps).map q4 := (List.map_mergeSort (r := fun a b => leD (q4 a) (q4 b)) (s := leD) (f := q4) (l := ps) (fun _ _ _ _ => rfl)).symm
theorem sorted4_perm (ps : List (Int × Int × Int × Int)) : (sorted4 ps).Perm ps := List.mergeSort_perm ..
theorem all_mem {dev rule : List (List Int)} {w : Str} {n : Int} {q : Int × Int × Int × Int} (h : q ∈ allOf dev rule w n) : ∃ x y s, q.2.2.1 = Aq dev rule x s - Aq dev rule y s := by
  unfold allOf at h
  obtain ⟨x, _, h⟩ := List.mem_flatMap.mp h
  unfold rowOf at h
  obtain ⟨y, _, h⟩ := List.mem_flatMap.mp h
  unfold colOf at h
  obtain ⟨s, _, h⟩ := List.mem_flatMap.mp h
  unfold stp at h
  split at h
  · split at h
    · rw [List.mem_singleton] at h; subst h; exact ⟨x, y, s, rfl⟩
    · cases h
  · cases h
theorem reach_len {ns : List Int} : (ruleF ns (reach ns)).length = reach ns := by unfold ruleF; rw [List.length_map, List.length_range]
theorem figures_serve_ok {cl : Nat → Addr} {ns : List Int} {w : Str} {n : Int} {Q : Rz → Sl → Prop} {Ξ : Xp} (hb : Bases ns) (h1 : 1 ≤ ns.length) (h2 : ns.length ≤ 40) (hs : Sv w n) (h : Q (.dat (.bl (Served w n ns))) [.dat (bs ns), .dat (sv w n)]) : F_figures_serve cl [.dat (bs ns), .dat (sv w n)] Q Ξ := by
  unfold F_figures_serve mkF
  refine ⟨pinnedD (xs := [bs ns, sv w n]), ?_⟩
  simp only [w_figures_serve, wSeq, wNext, wIfS, wSetF, wSet, into, wSetIx, wRet, wRetN, wDrop, wB, wBin, wUn, wCB, wCons, wNil, wVar, wC, wIf, wAnd, wOr, DL.wNot, wAndV, wOrV, wNotV, wTup, wLst, wSl, wNoPart, wPart, wChain, wUnp, wgTup, wgCons, wgNil, wName, wIsi, wListRg, wRg1, wRg2, wTupRg, wPuts, puts, Rz.sd, wConsH, wAppend, wExtend, ownL, dI, dI0, dIx, dInt, dAbs, dLen, dMax2, dMin2, dSum, dAll, dAny, dList, dTuple, dAdd, dNeg, dIsN, dNotN, PD.isN, dSl, look, looks, ok, Rz.pd, SD.pd, OD.pd, Rz.cold, Rz.cool, warm, pdsOf, frz, frzAll, leave, argOf, onceB, newBor, isBor, ty_non, ty_bl, ty_int, ty_str, ty_lst, ty_scr, ty_tup, ty_dct, isa, String.reduceBEq, beq_self_eq_true, Bool.false_and, Bool.and_false, Bool.not_true, Bool.or_self, wYes, wCall, backS_0, backS_1, backS_2, backS_3, backS_4, backS_o0, backS_o1, backS_o2, backS_o3, dEq_int, dEq_str, dNeX_int, dNeX_str, List.length_cons, List.length_nil, List.cons_append, List.nil_append, List.replicate, Nat.reduceAdd, Nat.reduceSub, List.getElem?_cons_zero, List.getElem?_cons_succ, Option.bind_some, List.set_cons_zero, List.set_cons_succ, List.map_cons, List.map_nil, List.any_cons, List.any_nil, List.getD_cons_zero, List.getD_cons_succ, true_or, or_true, true_and, and_true, Bool.and_true, Bool.true_and, Bool.or_false, Bool.false_or, Bool.not_false, Bool.not_true, Bool.or_true, Bool.true_or, decide_true, decide_false, wFor, wRng1, wRng2, wLc, wSeqI, items, wEnumX, wCallO, wNever, noOwn, List.all_cons, List.all_nil, wipeS, Bool.and_self, decide_eq_true_eq, atI0a, atI0b, atI0c, atI1b, atI1c, atI2c, wZipX, seqP]
  refine figures_clash_ok hb h1 h2 hs (fun no => ?_) (fun i hi hst => ?_)
  · rw [served_yes hs hb h1 no] at h
    simp only [wSeq, wNext, wIfS, wSetF, wSet, into, wSetIx, wRet, wRetN, wDrop, wB, wBin, wUn, wCB, wCons, wNil, wVar, wC, wIf, wAnd, wOr, DL.wNot, wAndV, wOrV, wNotV, wTup, wLst, wSl, wNoPart, wPart, wChain, wUnp, wgTup, wgCons, wgNil, wName, wIsi, wListRg, wRg1, wRg2, wTupRg, wPuts, puts, Rz.sd, wConsH, wAppend, wExtend, ownL, dI, dI0, dIx, dInt, dAbs, dLen, dMax2, dMin2, dSum, dAll, dAny, dList, dTuple, dAdd, dNeg, dIsN, dNotN, PD.isN, dSl, look, looks, ok, Rz.pd, SD.pd, OD.pd, Rz.cold, Rz.cool, warm, pdsOf, frz, frzAll, leave, argOf, onceB, newBor, isBor, ty_non, ty_bl, ty_int, ty_str, ty_lst, ty_scr, ty_tup, ty_dct, isa, String.reduceBEq, beq_self_eq_true, Bool.false_and, Bool.and_false, Bool.not_true, Bool.or_self, wYes, wCall, backS_0, backS_1, backS_2, backS_3, backS_4, backS_o0, backS_o1, backS_o2, backS_o3, dEq_int, dEq_str, dNeX_int, dNeX_str, List.length_cons, List.length_nil, List.cons_append, List.nil_append, List.replicate, Nat.reduceAdd, Nat.reduceSub, List.getElem?_cons_zero, List.getElem?_cons_succ, Option.bind_some, List.set_cons_zero, List.set_cons_succ, List.map_cons, List.map_nil, List.any_cons, List.any_nil, List.getD_cons_zero, List.getD_cons_succ, true_or, or_true, true_and, and_true, Bool.and_true, Bool.true_and, Bool.or_false, Bool.false_or, Bool.not_false, Bool.not_true, Bool.or_true, Bool.true_or, decide_true, decide_false, wFor, wRng1, wRng2, wLc, wSeqI, items, wEnumX, wCallO, wNever, noOwn, List.all_cons, List.all_nil, wipeS, Bool.and_self, decide_eq_true_eq, atI0a, atI0b, atI0c, atI1b, atI1c, atI2c, wZipX, seqP]
    exact h
  · rw [served_no hs hb hi hst] at h
    simp only [wSeq, wNext, wIfS, wSetF, wSet, into, wSetIx, wRet, wRetN, wDrop, wB, wBin, wUn, wCB, wCons, wNil, wVar, wC, wIf, wAnd, wOr, DL.wNot, wAndV, wOrV, wNotV, wTup, wLst, wSl, wNoPart, wPart, wChain, wUnp, wgTup, wgCons, wgNil, wName, wIsi, wListRg, wRg1, wRg2, wTupRg, wPuts, puts, Rz.sd, wConsH, wAppend, wExtend, ownL, dI, dI0, dIx, dInt, dAbs, dLen, dMax2, dMin2, dSum, dAll, dAny, dList, dTuple, dAdd, dNeg, dIsN, dNotN, PD.isN, dSl, look, looks, ok, Rz.pd, SD.pd, OD.pd, Rz.cold, Rz.cool, warm, pdsOf, frz, frzAll, leave, argOf, onceB, newBor, isBor, ty_non, ty_bl, ty_int, ty_str, ty_lst, ty_scr, ty_tup, ty_dct, isa, String.reduceBEq, beq_self_eq_true, Bool.false_and, Bool.and_false, Bool.not_true, Bool.or_self, wYes, wCall, backS_0, backS_1, backS_2, backS_3, backS_4, backS_o0, backS_o1, backS_o2, backS_o3, dEq_int, dEq_str, dNeX_int, dNeX_str, List.length_cons, List.length_nil, List.cons_append, List.nil_append, List.replicate, Nat.reduceAdd, Nat.reduceSub, List.getElem?_cons_zero, List.getElem?_cons_succ, Option.bind_some, List.set_cons_zero, List.set_cons_succ, List.map_cons, List.map_nil, List.any_cons, List.any_nil, List.getD_cons_zero, List.getD_cons_succ, true_or, or_true, true_and, and_true, Bool.and_true, Bool.true_and, Bool.or_false, Bool.false_or, Bool.not_false, Bool.not_true, Bool.or_true, Bool.true_or, decide_true, decide_false, wFor, wRng1, wRng2, wLc, wSeqI, items, wEnumX, wCallO, wNever, noOwn, List.all_cons, List.all_nil, wipeS, Bool.and_self, decide_eq_true_eq, atI0a, atI0b, atI0c, atI1b, atI1c, atI2c, wZipX, seqP]
    exact h
/-- a lap over small bases -/
theorem lapC_ok {cl : Nat → Addr} {m : Int} {d : PD} {ρ : Sl} {N : Sl → Prop} {rt : Rz → Sl → Prop} {bk : Sl → Prop} (hm : 0 ≤ m ∧ m ≤ 100000) (hG : G19 m ρ) (hN : ∀ ρ', G19 (m + 10) ρ' → N ρ') :
    (wSeq (wSetF 4 (wCall 3 (F__law_bases cl) noX (wCons (wVar 0) (wCons (wC (.int 4)) (wCons (wC (.int 24)) wNil)))))
  (wSeq (wPuts [8, 9] (wConsH (wCall 1 (F__law_figures_own cl) noX (wCons (wVar 4) wNil)) (wConsH (wBin dIx (wCall 1 (F__law_weights cl) noX (wCons (wVar 4) wNil)) (wUn dNeg (wC (.int 1)))) wNil)))
  (wSeq (wSetF 5 (wLc [11] (wRng1 (wCons (wVar 9) wNil)) (wName 11) wYes (wCall 2 (F__law_figures cl) noX (wCons (wVar 4) (wCons (wVar 11) wNil)))))
  (wSeq (wSetF 6 (wLc [13, 14, 15, 16] (wSeqI (wCall 3 (F__law_clash_pairs cl) noX (wCons (wVar 8) (wCons (wVar 5) (wCons (wTup (wCons (wC (.str "any")) (wCons (wC (.int 4)) wNil))) wNil))))) (wgTup 4 (wgCons (wName 13) (wgCons (wName 14) (wgCons (wName 15) (wgCons (wName 16) wgNil))))) wYes (wTup (wCons (wVar 13) (wCons (wVar 14) (wCons (wVar 15) wNil))))))
  (wFor (wSeqI (wVar 1)) (wName 7) (wSeq (wSetF 10 (wNotV (wCB dAny (wCons (wLc [18] (wSeqI (wVar 6)) (wName 18) wYes (wCall 3 (F__law_can_be cl) noX (wCons (wVar 7) (wCons (wBin (dI0 fun i j => .int (i - j)) (wVar 9) (wC (.int 1))) (wCons (wVar 18) wNil))))) wNil))))
  (wSeq (wIfS (wB (wBin dNeX (wVar 10) (wCall 2 (F__law_does_figure_serve cl) noX (wCons (wVar 4) (wCons (wVar 7) wNil))))) (wRet (wC (.bl false))) wNext)
  (wIfS (wB (wBin dNeX (wCB dReprX (wCons (wCall 2 (F_figures_serve cl) noX (wPick [1, 0] fun ρ Q => (wCons (wVar 7) (wCons (wVar 4) wNil)) ρ fun rs ρ1 => rs.length = 2 ∧ Q rs ρ1)) wNil)) (wCB dReprX (wCons (wVar 10) wNil)))) (wRet (wC (.bl false))) wNext))))))))
    { nx := N, rt := rt, bk := bk, ct := N } (ρ.set 3 (.dat d)) := by
  obtain ⟨s, D1, s2, s3, s4, s5, s6, s7, s8, s9, s10, hp, hD, rfl⟩ := hG
  have z2 : (2 : Nat) ≤ sizeLine := sz (by decide)
  have z3 : (3 : Nat) ≤ sizeLine := sz (by decide)
  have z4 : (4 : Nat) ≤ sizeLine := sz (by decide)
  show wSeq _ _ _ (R19 s D1 s2 (.dat d) s4 s5 s6 s7 s8 s9 s10)
  refine seq_by (fun ρ' => ∃ s ns, Pot (m + 10) s ∧ Bases ns ∧ 1 ≤ ns.length ∧ ns.length ≤ 4 ∧ prodL ns ≤ 24 ∧ ρ' = R19 s D1 s2 (.dat d) (.dat (bs ns)) s5 s6 s7 s8 s9 s10) (fun N hN => ?_) (fun ρ hρ => ?_)
  · obtain ⟨o, rfl⟩ := hp.own
    simp only [R19, wSeq, wNext, wIfS, wSetF, wSet, into, wSetIx, wRet, wRetN, wDrop, wB, wBin, wUn, wCB, wCons, wNil, wVar, wC, wIf, wAnd, wOr, DL.wNot, wAndV, wOrV, wNotV, wTup, wLst, wSl, wNoPart, wPart, wChain, wUnp, wgTup, wgCons, wgNil, wName, wIsi, wListRg, wRg1, wRg2, wTupRg, wPuts, puts, Rz.sd, wConsH, wAppend, wExtend, ownL, dI, dI0, dIx, dInt, dAbs, dLen, dMax2, dMin2, dSum, dAll, dAny, dList, dTuple, dAdd, dNeg, dIsN, dNotN, PD.isN, dSl, look, looks, ok, Rz.pd, SD.pd, OD.pd, Rz.cold, Rz.cool, warm, pdsOf, frz, frzAll, leave, argOf, onceB, newBor, isBor, ty_non, ty_bl, ty_int, ty_str, ty_lst, ty_scr, ty_tup, ty_dct, isa, String.reduceBEq, beq_self_eq_true, Bool.false_and, Bool.and_false, Bool.not_true, Bool.or_self, wYes, wCall, backS_0, backS_1, backS_2, backS_3, backS_4, backS_o0, backS_o1, backS_o2, backS_o3, dEq_int, dEq_str, dNeX_int, dNeX_str, List.length_cons, List.length_nil, List.cons_append, List.nil_append, List.replicate, Nat.reduceAdd, Nat.reduceSub, List.getElem?_cons_zero, List.getElem?_cons_succ, Option.bind_some, List.set_cons_zero, List.set_cons_succ, List.map_cons, List.map_nil, List.any_cons, List.any_nil, List.getD_cons_zero, List.getD_cons_succ, true_or, or_true, true_and, and_true, Bool.and_true, Bool.true_and, Bool.or_false, Bool.false_or, Bool.not_false, Bool.not_true, Bool.or_true, Bool.true_or, decide_true, decide_false, wFor, wRng1, wRng2, wLc, wSeqI, items, wEnumX, wCallO, wNever, noOwn, List.all_cons, List.all_nil, wipeS, Bool.and_self, decide_eq_true_eq, atI0a, atI0b, atI0c, atI1b, atI1c, atI2c, wZipX, seqP]
    refine bases_ok hp (by omega) fun ns s' hb h1 h4 hpr hp => ?_
    simp only [backS_h2, wSeq, wNext, wIfS, wSetF, wSet, into, wSetIx, wRet, wRetN, wDrop, wB, wBin, wUn, wCB, wCons, wNil, wVar, wC, wIf, wAnd, wOr, DL.wNot, wAndV, wOrV, wNotV, wTup, wLst, wSl, wNoPart, wPart, wChain, wUnp, wgTup, wgCons, wgNil, wName, wIsi, wListRg, wRg1, wRg2, wTupRg, wPuts, puts, Rz.sd, wConsH, wAppend, wExtend, ownL, dI, dI0, dIx, dInt, dAbs, dLen, dMax2, dMin2, dSum, dAll, dAny, dList, dTuple, dAdd, dNeg, dIsN, dNotN, PD.isN, dSl, look, looks, ok, Rz.pd, SD.pd, OD.pd, Rz.cold, Rz.cool, warm, pdsOf, frz, frzAll, leave, argOf, onceB, newBor, isBor, ty_non, ty_bl, ty_int, ty_str, ty_lst, ty_scr, ty_tup, ty_dct, isa, String.reduceBEq, beq_self_eq_true, Bool.false_and, Bool.and_false, Bool.not_true, Bool.or_self, wYes, wCall, backS_0, backS_1, backS_2, backS_3, backS_4, backS_o0, backS_o1, backS_o2, backS_o3, dEq_int, dEq_str, dNeX_int, dNeX_str, List.length_cons, List.length_nil, List.cons_append, List.nil_append, List.replicate, Nat.reduceAdd, Nat.reduceSub, List.getElem?_cons_zero, List.getElem?_cons_succ, Option.bind_some, List.set_cons_zero, List.set_cons_succ, List.map_cons, List.map_nil, List.any_cons, List.any_nil, List.getD_cons_zero, List.getD_cons_succ, true_or, or_true, true_and, and_true, Bool.and_true, Bool.true_and, Bool.or_false, Bool.false_or, Bool.not_false, Bool.not_true, Bool.or_true, Bool.true_or, decide_true, decide_false, wFor, wRng1, wRng2, wLc, wSeqI, items, wEnumX, wCallO, wNever, noOwn, List.all_cons, List.all_nil, wipeS, Bool.and_self, decide_eq_true_eq, atI0a, atI0b, atI0c, atI1b, atI1c, atI2c, wZipX, seqP]
    exact hN _ ⟨s', ns, hp, hb, h1, h4, hpr, rfl⟩
  obtain ⟨s, ns, hp, hb, h1, h4, hpr, rfl⟩ := hρ
  obtain ⟨k5, hw, due, few, fewR⟩ := facts hb h1 h4 hpr
  obtain ⟨r1, r2⟩ := W_sm hb (by omega) (Nat.le_refl ns.length)
  have er : ((reach ns : Nat) : Int) = W ns ns.length := by unfold reach; omega
  refine seq_to (ρ' := R19 s D1 s2 (.dat d) (.dat (bs ns)) s5 s6 s7 (.own (.lst ((ownF ns 1).map lsP))) (.dat (.int (W ns ns.length))) s10) (fun N hN => ?_) ?_
  · simp only [R19, wSeq, wNext, wIfS, wSetF, wSet, into, wSetIx, wRet, wRetN, wDrop, wB, wBin, wUn, wCB, wCons, wNil, wVar, wC, wIf, wAnd, wOr, DL.wNot, wAndV, wOrV, wNotV, wTup, wLst, wSl, wNoPart, wPart, wChain, wUnp, wgTup, wgCons, wgNil, wName, wIsi, wListRg, wRg1, wRg2, wTupRg, wPuts, puts, Rz.sd, wConsH, wAppend, wExtend, ownL, dI, dI0, dIx, dInt, dAbs, dLen, dMax2, dMin2, dSum, dAll, dAny, dList, dTuple, dAdd, dNeg, dIsN, dNotN, PD.isN, dSl, look, looks, ok, Rz.pd, SD.pd, OD.pd, Rz.cold, Rz.cool, warm, pdsOf, frz, frzAll, leave, argOf, onceB, newBor, isBor, ty_non, ty_bl, ty_int, ty_str, ty_lst, ty_scr, ty_tup, ty_dct, isa, String.reduceBEq, beq_self_eq_true, Bool.false_and, Bool.and_false, Bool.not_true, Bool.or_self, wYes, wCall, backS_0, backS_1, backS_2, backS_3, backS_4, backS_o0, backS_o1, backS_o2, backS_o3, dEq_int, dEq_str, dNeX_int, dNeX_str, List.length_cons, List.length_nil, List.cons_append, List.nil_append, List.replicate, Nat.reduceAdd, Nat.reduceSub, List.getElem?_cons_zero, List.getElem?_cons_succ, Option.bind_some, List.set_cons_zero, List.set_cons_succ, List.map_cons, List.map_nil, List.any_cons, List.any_nil, List.getD_cons_zero, List.getD_cons_succ, true_or, or_true, true_and, and_true, Bool.and_true, Bool.true_and, Bool.or_false, Bool.false_or, Bool.not_false, Bool.not_true, Bool.or_true, Bool.true_or, decide_true, decide_false, wFor, wRng1, wRng2, wLc, wSeqI, items, wEnumX, wCallO, wNever, noOwn, List.all_cons, List.all_nil, wipeS, Bool.and_self, decide_eq_true_eq, atI0a, atI0b, atI0c, atI1b, atI1c, atI2c, wZipX, seqP]
    refine own_ok hb (by omega) hw ?_
    simp only [e_law_weights, wSeq, wNext, wIfS, wSetF, wSet, into, wSetIx, wRet, wRetN, wDrop, wB, wBin, wUn, wCB, wCons, wNil, wVar, wC, wIf, wAnd, wOr, DL.wNot, wAndV, wOrV, wNotV, wTup, wLst, wSl, wNoPart, wPart, wChain, wUnp, wgTup, wgCons, wgNil, wName, wIsi, wListRg, wRg1, wRg2, wTupRg, wPuts, puts, Rz.sd, wConsH, wAppend, wExtend, ownL, dI, dI0, dIx, dInt, dAbs, dLen, dMax2, dMin2, dSum, dAll, dAny, dList, dTuple, dAdd, dNeg, dIsN, dNotN, PD.isN, dSl, look, looks, ok, Rz.pd, SD.pd, OD.pd, Rz.cold, Rz.cool, warm, pdsOf, frz, frzAll, leave, argOf, onceB, newBor, isBor, ty_non, ty_bl, ty_int, ty_str, ty_lst, ty_scr, ty_tup, ty_dct, isa, String.reduceBEq, beq_self_eq_true, Bool.false_and, Bool.and_false, Bool.not_true, Bool.or_self, wYes, wCall, backS_0, backS_1, backS_2, backS_3, backS_4, backS_o0, backS_o1, backS_o2, backS_o3, dEq_int, dEq_str, dNeX_int, dNeX_str, List.length_cons, List.length_nil, List.cons_append, List.nil_append, List.replicate, Nat.reduceAdd, Nat.reduceSub, List.getElem?_cons_zero, List.getElem?_cons_succ, Option.bind_some, List.set_cons_zero, List.set_cons_succ, List.map_cons, List.map_nil, List.any_cons, List.any_nil, List.getD_cons_zero, List.getD_cons_succ, true_or, or_true, true_and, and_true, Bool.and_true, Bool.true_and, Bool.or_false, Bool.false_or, Bool.not_false, Bool.not_true, Bool.or_true, Bool.true_or, decide_true, decide_false, wFor, wRng1, wRng2, wLc, wSeqI, items, wEnumX, wCallO, wNever, noOwn, List.all_cons, List.all_nil, wipeS, Bool.and_self, decide_eq_true_eq, atI0a, atI0b, atI0c, atI1b, atI1c, atI2c, wZipX, seqP]
    refine weights_ok hb (by omega) ?_
    simp only [W_end, wSeq, wNext, wIfS, wSetF, wSet, into, wSetIx, wRet, wRetN, wDrop, wB, wBin, wUn, wCB, wCons, wNil, wVar, wC, wIf, wAnd, wOr, DL.wNot, wAndV, wOrV, wNotV, wTup, wLst, wSl, wNoPart, wPart, wChain, wUnp, wgTup, wgCons, wgNil, wName, wIsi, wListRg, wRg1, wRg2, wTupRg, wPuts, puts, Rz.sd, wConsH, wAppend, wExtend, ownL, dI, dI0, dIx, dInt, dAbs, dLen, dMax2, dMin2, dSum, dAll, dAny, dList, dTuple, dAdd, dNeg, dIsN, dNotN, PD.isN, dSl, look, looks, ok, Rz.pd, SD.pd, OD.pd, Rz.cold, Rz.cool, warm, pdsOf, frz, frzAll, leave, argOf, onceB, newBor, isBor, ty_non, ty_bl, ty_int, ty_str, ty_lst, ty_scr, ty_tup, ty_dct, isa, String.reduceBEq, beq_self_eq_true, Bool.false_and, Bool.and_false, Bool.not_true, Bool.or_self, wYes, wCall, backS_0, backS_1, backS_2, backS_3, backS_4, backS_o0, backS_o1, backS_o2, backS_o3, dEq_int, dEq_str, dNeX_int, dNeX_str, List.length_cons, List.length_nil, List.cons_append, List.nil_append, List.replicate, Nat.reduceAdd, Nat.reduceSub, List.getElem?_cons_zero, List.getElem?_cons_succ, Option.bind_some, List.set_cons_zero, List.set_cons_succ, List.map_cons, List.map_nil, List.any_cons, List.any_nil, List.getD_cons_zero, List.getD_cons_succ, true_or, or_true, true_and, and_true, Bool.and_true, Bool.true_and, Bool.or_false, Bool.false_or, Bool.not_false, Bool.not_true, Bool.or_true, Bool.true_or, decide_true, decide_false, wFor, wRng1, wRng2, wLc, wSeqI, items, wEnumX, wCallO, wNever, noOwn, List.all_cons, List.all_nil, wipeS, Bool.and_self, decide_eq_true_eq, atI0a, atI0b, atI0c, atI1b, atI1c, atI2c, wZipX, seqP]
    exact ⟨.inr ⟨_, rfl⟩, hN⟩
  have hr := k5.r.2
  rw [reach_len] at hr
  refine seq_to (ρ' := R19 s D1 s2 (.dat d) (.dat (bs ns)) (.dat (.lst ((ruleF ns (reach ns)).map rowP))) s6 s7 (.own (.lst ((ownF ns 1).map lsP))) (.dat (.int (W ns ns.length))) s10) (fun N hN => ?_) ?_
  · simp only [R19, wSeq, wNext, wIfS, wSetF, wSet, into, wSetIx, wRet, wRetN, wDrop, wB, wBin, wUn, wCB, wCons, wNil, wVar, wC, wIf, wAnd, wOr, DL.wNot, wAndV, wOrV, wNotV, wTup, wLst, wSl, wNoPart, wPart, wChain, wUnp, wgTup, wgCons, wgNil, wName, wIsi, wListRg, wRg1, wRg2, wTupRg, wPuts, puts, Rz.sd, wConsH, wAppend, wExtend, ownL, dI, dI0, dIx, dInt, dAbs, dLen, dMax2, dMin2, dSum, dAll, dAny, dList, dTuple, dAdd, dNeg, dIsN, dNotN, PD.isN, dSl, look, looks, ok, Rz.pd, SD.pd, OD.pd, Rz.cold, Rz.cool, warm, pdsOf, frz, frzAll, leave, argOf, onceB, newBor, isBor, ty_non, ty_bl, ty_int, ty_str, ty_lst, ty_scr, ty_tup, ty_dct, isa, String.reduceBEq, beq_self_eq_true, Bool.false_and, Bool.and_false, Bool.not_true, Bool.or_self, wYes, wCall, backS_0, backS_1, backS_2, backS_3, backS_4, backS_o0, backS_o1, backS_o2, backS_o3, dEq_int, dEq_str, dNeX_int, dNeX_str, List.length_cons, List.length_nil, List.cons_append, List.nil_append, List.replicate, Nat.reduceAdd, Nat.reduceSub, List.getElem?_cons_zero, List.getElem?_cons_succ, Option.bind_some, List.set_cons_zero, List.set_cons_succ, List.map_cons, List.map_nil, List.any_cons, List.any_nil, List.getD_cons_zero, List.getD_cons_succ, true_or, or_true, true_and, and_true, Bool.and_true, Bool.true_and, Bool.or_false, Bool.false_or, Bool.not_false, Bool.not_true, Bool.or_true, Bool.true_or, decide_true, decide_false, wFor, wRng1, wRng2, wLc, wSeqI, items, wEnumX, wCallO, wNever, noOwn, List.all_cons, List.all_nil, wipeS, Bool.and_self, decide_eq_true_eq, atI0a, atI0b, atI0c, atI1b, atI1c, atI2c, wZipX, seqP]
    refine ⟨⟨by omega, by omega⟩, ?_⟩
    have e0 : (W ns ns.length).toNat = reach ns := rfl
    rw [e0]
    refine compL_same (g := fun d => match d with | .int i => rowP (figs ns 1 i) | _ => .non) (by rw [rg_len]; omega) (fun d' hd acc N' hacc hN' => ?_) ?_
    · obtain ⟨i, _, rfl⟩ := List.mem_map.mp hd
      simp only [wSeq, wNext, wIfS, wSetF, wSet, into, wSetIx, wRet, wRetN, wDrop, wB, wBin, wUn, wCB, wCons, wNil, wVar, wC, wIf, wAnd, wOr, DL.wNot, wAndV, wOrV, wNotV, wTup, wLst, wSl, wNoPart, wPart, wChain, wUnp, wgTup, wgCons, wgNil, wName, wIsi, wListRg, wRg1, wRg2, wTupRg, wPuts, puts, Rz.sd, wConsH, wAppend, wExtend, ownL, dI, dI0, dIx, dInt, dAbs, dLen, dMax2, dMin2, dSum, dAll, dAny, dList, dTuple, dAdd, dNeg, dIsN, dNotN, PD.isN, dSl, look, looks, ok, Rz.pd, SD.pd, OD.pd, Rz.cold, Rz.cool, warm, pdsOf, frz, frzAll, leave, argOf, onceB, newBor, isBor, ty_non, ty_bl, ty_int, ty_str, ty_lst, ty_scr, ty_tup, ty_dct, isa, String.reduceBEq, beq_self_eq_true, Bool.false_and, Bool.and_false, Bool.not_true, Bool.or_self, wYes, wCall, backS_0, backS_1, backS_2, backS_3, backS_4, backS_o0, backS_o1, backS_o2, backS_o3, dEq_int, dEq_str, dNeX_int, dNeX_str, List.length_cons, List.length_nil, List.cons_append, List.nil_append, List.replicate, Nat.reduceAdd, Nat.reduceSub, List.getElem?_cons_zero, List.getElem?_cons_succ, Option.bind_some, List.set_cons_zero, List.set_cons_succ, List.map_cons, List.map_nil, List.any_cons, List.any_nil, List.getD_cons_zero, List.getD_cons_succ, true_or, or_true, true_and, and_true, Bool.and_true, Bool.true_and, Bool.or_false, Bool.false_or, Bool.not_false, Bool.not_true, Bool.or_true, Bool.true_or, decide_true, decide_false, wFor, wRng1, wRng2, wLc, wSeqI, items, wEnumX, wCallO, wNever, noOwn, List.all_cons, List.all_nil, wipeS, Bool.and_self, decide_eq_true_eq, atI0a, atI0b, atI0c, atI1b, atI1c, atI2c, wZipX, seqP]
      refine figures_ok hb (by omega) hw ?_
      simp only [wSeq, wNext, wIfS, wSetF, wSet, into, wSetIx, wRet, wRetN, wDrop, wB, wBin, wUn, wCB, wCons, wNil, wVar, wC, wIf, wAnd, wOr, DL.wNot, wAndV, wOrV, wNotV, wTup, wLst, wSl, wNoPart, wPart, wChain, wUnp, wgTup, wgCons, wgNil, wName, wIsi, wListRg, wRg1, wRg2, wTupRg, wPuts, puts, Rz.sd, wConsH, wAppend, wExtend, ownL, dI, dI0, dIx, dInt, dAbs, dLen, dMax2, dMin2, dSum, dAll, dAny, dList, dTuple, dAdd, dNeg, dIsN, dNotN, PD.isN, dSl, look, looks, ok, Rz.pd, SD.pd, OD.pd, Rz.cold, Rz.cool, warm, pdsOf, frz, frzAll, leave, argOf, onceB, newBor, isBor, ty_non, ty_bl, ty_int, ty_str, ty_lst, ty_scr, ty_tup, ty_dct, isa, String.reduceBEq, beq_self_eq_true, Bool.false_and, Bool.and_false, Bool.not_true, Bool.or_self, wYes, wCall, backS_0, backS_1, backS_2, backS_3, backS_4, backS_o0, backS_o1, backS_o2, backS_o3, dEq_int, dEq_str, dNeX_int, dNeX_str, List.length_cons, List.length_nil, List.cons_append, List.nil_append, List.replicate, Nat.reduceAdd, Nat.reduceSub, List.getElem?_cons_zero, List.getElem?_cons_succ, Option.bind_some, List.set_cons_zero, List.set_cons_succ, List.map_cons, List.map_nil, List.any_cons, List.any_nil, List.getD_cons_zero, List.getD_cons_succ, true_or, or_true, true_and, and_true, Bool.and_true, Bool.true_and, Bool.or_false, Bool.false_or, Bool.not_false, Bool.not_true, Bool.or_true, Bool.true_or, decide_true, decide_false, wFor, wRng1, wRng2, wLc, wSeqI, items, wEnumX, wCallO, wNever, noOwn, List.all_cons, List.all_nil, wipeS, Bool.and_self, decide_eq_true_eq, atI0a, atI0b, atI0c, atI1b, atI1c, atI2c, wZipX, seqP]
      exact ⟨hacc, hN'⟩
    · have e : (rgP 0 (reach ns)).map (fun d => match d with | .int i => rowP (figs ns 1 i) | _ => PD.non) = (ruleF ns (reach ns)).map rowP := by
        unfold rgP ruleF
        rw [List.map_map, List.map_map]
        refine List.map_congr_left fun a _ => ?_
        show rowP (figs ns 1 (0 + (a : Int))) = rowP (figs ns 1 (a : Int))
        rw [Int.zero_add]
      rw [e]
      simp only [restore, wSeq, wNext, wIfS, wSetF, wSet, into, wSetIx, wRet, wRetN, wDrop, wB, wBin, wUn, wCB, wCons, wNil, wVar, wC, wIf, wAnd, wOr, DL.wNot, wAndV, wOrV, wNotV, wTup, wLst, wSl, wNoPart, wPart, wChain, wUnp, wgTup, wgCons, wgNil, wName, wIsi, wListRg, wRg1, wRg2, wTupRg, wPuts, puts, Rz.sd, wConsH, wAppend, wExtend, ownL, dI, dI0, dIx, dInt, dAbs, dLen, dMax2, dMin2, dSum, dAll, dAny, dList, dTuple, dAdd, dNeg, dIsN, dNotN, PD.isN, dSl, look, looks, ok, Rz.pd, SD.pd, OD.pd, Rz.cold, Rz.cool, warm, pdsOf, frz, frzAll, leave, argOf, onceB, newBor, isBor, ty_non, ty_bl, ty_int, ty_str, ty_lst, ty_scr, ty_tup, ty_dct, isa, String.reduceBEq, beq_self_eq_true, Bool.false_and, Bool.and_false, Bool.not_true, Bool.or_self, wYes, wCall, backS_0, backS_1, backS_2, backS_3, backS_4, backS_o0, backS_o1, backS_o2, backS_o3, dEq_int, dEq_str, dNeX_int, dNeX_str, List.length_cons, List.length_nil, List.cons_append, List.nil_append, List.replicate, Nat.reduceAdd, Nat.reduceSub, List.getElem?_cons_zero, List.getElem?_cons_succ, Option.bind_some, List.set_cons_zero, List.set_cons_succ, List.map_cons, List.map_nil, List.any_cons, List.any_nil, List.getD_cons_zero, List.getD_cons_succ, true_or, or_true, true_and, and_true, Bool.and_true, Bool.true_and, Bool.or_false, Bool.false_or, Bool.not_false, Bool.not_true, Bool.or_true, Bool.true_or, decide_true, decide_false, wFor, wRng1, wRng2, wLc, wSeqI, items, wEnumX, wCallO, wNever, noOwn, List.all_cons, List.all_nil, wipeS, Bool.and_self, decide_eq_true_eq, atI0a, atI0b, atI0c, atI1b, atI1c, atI2c, wZipX, seqP]
      exact ⟨.inr ⟨_, rfl⟩, hN⟩
  generalize hqs : sorted4 (allOf (ownF ns 1) (ruleF ns (reach ns)) "any" 4) = qs
  have hperm : qs.Perm (allOf (ownF ns 1) (ruleF ns (reach ns)) "any" 4) := by rw [← hqs]; exact sorted4_perm _
  have hlen : qs.length ≤ 40000 := by
    rw [hperm.length_eq]
    generalize ownF ns 1 = dev at few ⊢
    generalize ruleF ns (reach ns) = rule at fewR ⊢
    have l1 : ∀ x y, (colOf dev rule "any" 4 x y).length ≤ 4 := fun x y => by
      have := flat_len (f := stp dev rule "any" 4 x y) (c := 1) (fun s => stp_len x y s) dev.length
      unfold colOf
      omega
    have l2 : ∀ x, (rowOf dev rule "any" 4 x).length ≤ 120 := fun x => by
      have := flat_len (f := colOf dev rule "any" 4 x) (c := 4) (l1 x) rule.length
      unfold rowOf
      omega
    have := flat_len (f := rowOf dev rule "any" 4) (c := 120) l2 rule.length
    unfold allOf
    omega
  refine seq_to (ρ' := R19 s D1 s2 (.dat d) (.dat (bs ns)) (.dat (.lst ((ruleF ns (reach ns)).map rowP))) (.dat (.lst (qs.map q3))) s7 (.dat (devP (ownF ns 1))) (.dat (.int (W ns ns.length))) s10) (fun N hN => ?_) ?_
  · simp only [R19, z2, wSeq, wNext, wIfS, wSetF, wSet, into, wSetIx, wRet, wRetN, wDrop, wB, wBin, wUn, wCB, wCons, wNil, wVar, wC, wIf, wAnd, wOr, DL.wNot, wAndV, wOrV, wNotV, wTup, wLst, wSl, wNoPart, wPart, wChain, wUnp, wgTup, wgCons, wgNil, wName, wIsi, wListRg, wRg1, wRg2, wTupRg, wPuts, puts, Rz.sd, wConsH, wAppend, wExtend, ownL, dI, dI0, dIx, dInt, dAbs, dLen, dMax2, dMin2, dSum, dAll, dAny, dList, dTuple, dAdd, dNeg, dIsN, dNotN, PD.isN, dSl, look, looks, ok, Rz.pd, SD.pd, OD.pd, Rz.cold, Rz.cool, warm, pdsOf, frz, frzAll, leave, argOf, onceB, newBor, isBor, ty_non, ty_bl, ty_int, ty_str, ty_lst, ty_scr, ty_tup, ty_dct, isa, String.reduceBEq, beq_self_eq_true, Bool.false_and, Bool.and_false, Bool.not_true, Bool.or_self, wYes, wCall, backS_0, backS_1, backS_2, backS_3, backS_4, backS_o0, backS_o1, backS_o2, backS_o3, dEq_int, dEq_str, dNeX_int, dNeX_str, List.length_cons, List.length_nil, List.cons_append, List.nil_append, List.replicate, Nat.reduceAdd, Nat.reduceSub, List.getElem?_cons_zero, List.getElem?_cons_succ, Option.bind_some, List.set_cons_zero, List.set_cons_succ, List.map_cons, List.map_nil, List.any_cons, List.any_nil, List.getD_cons_zero, List.getD_cons_succ, true_or, or_true, true_and, and_true, Bool.and_true, Bool.true_and, Bool.or_false, Bool.false_or, Bool.not_false, Bool.not_true, Bool.or_true, Bool.true_or, decide_true, decide_false, wFor, wRng1, wRng2, wLc, wSeqI, items, wEnumX, wCallO, wNever, noOwn, List.all_cons, List.all_nil, wipeS, Bool.and_self, decide_eq_true_eq, atI0a, atI0b, atI0c, atI1b, atI1c, atI2c, wZipX, seqP]
    refine clash_pairs_ok (.inl rfl) k5 ⟨.inr (.inr rfl), by decide, by decide⟩ ?_
    rw [sorted4_map, hqs]
    rw [backS_o2 (o := .lst ((ownF ns 1).map lsP)) rfl]
    simp only [wSeq, wNext, wIfS, wSetF, wSet, into, wSetIx, wRet, wRetN, wDrop, wB, wBin, wUn, wCB, wCons, wNil, wVar, wC, wIf, wAnd, wOr, DL.wNot, wAndV, wOrV, wNotV, wTup, wLst, wSl, wNoPart, wPart, wChain, wUnp, wgTup, wgCons, wgNil, wName, wIsi, wListRg, wRg1, wRg2, wTupRg, wPuts, puts, Rz.sd, wConsH, wAppend, wExtend, ownL, dI, dI0, dIx, dInt, dAbs, dLen, dMax2, dMin2, dSum, dAll, dAny, dList, dTuple, dAdd, dNeg, dIsN, dNotN, PD.isN, dSl, look, looks, ok, Rz.pd, SD.pd, OD.pd, Rz.cold, Rz.cool, warm, pdsOf, frz, frzAll, leave, argOf, onceB, newBor, isBor, ty_non, ty_bl, ty_int, ty_str, ty_lst, ty_scr, ty_tup, ty_dct, isa, String.reduceBEq, beq_self_eq_true, Bool.false_and, Bool.and_false, Bool.not_true, Bool.or_self, wYes, wCall, backS_0, backS_1, backS_2, backS_3, backS_4, backS_o0, backS_o1, backS_o2, backS_o3, dEq_int, dEq_str, dNeX_int, dNeX_str, List.length_cons, List.length_nil, List.cons_append, List.nil_append, List.replicate, Nat.reduceAdd, Nat.reduceSub, List.getElem?_cons_zero, List.getElem?_cons_succ, Option.bind_some, List.set_cons_zero, List.set_cons_succ, List.map_cons, List.map_nil, List.any_cons, List.any_nil, List.getD_cons_zero, List.getD_cons_succ, true_or, or_true, true_and, and_true, Bool.and_true, Bool.true_and, Bool.or_false, Bool.false_or, Bool.not_false, Bool.not_true, Bool.or_true, Bool.true_or, decide_true, decide_false, wFor, wRng1, wRng2, wLc, wSeqI, items, wEnumX, wCallO, wNever, noOwn, List.all_cons, List.all_nil, wipeS, Bool.and_self, decide_eq_true_eq, atI0a, atI0b, atI0c, atI1b, atI1c, atI2c, wZipX, seqP]
    refine ⟨.inr ⟨_, rfl⟩, ?_⟩
    refine compL_same (g := fun d => match d with | .tup [a, b, c, _] => .tup [a, b, c] | _ => .non) (by rw [List.length_map]; omega) (fun d' hd acc N' hacc hN' => ?_) ?_
    · obtain ⟨q, _, rfl⟩ := List.mem_map.mp hd
      simp only [z3, z4, wSeq, wNext, wIfS, wSetF, wSet, into, wSetIx, wRet, wRetN, wDrop, wB, wBin, wUn, wCB, wCons, wNil, wVar, wC, wIf, wAnd, wOr, DL.wNot, wAndV, wOrV, wNotV, wTup, wLst, wSl, wNoPart, wPart, wChain, wUnp, wgTup, wgCons, wgNil, wName, wIsi, wListRg, wRg1, wRg2, wTupRg, wPuts, puts, Rz.sd, wConsH, wAppend, wExtend, ownL, dI, dI0, dIx, dInt, dAbs, dLen, dMax2, dMin2, dSum, dAll, dAny, dList, dTuple, dAdd, dNeg, dIsN, dNotN, PD.isN, dSl, look, looks, ok, Rz.pd, SD.pd, OD.pd, Rz.cold, Rz.cool, warm, pdsOf, frz, frzAll, leave, argOf, onceB, newBor, isBor, ty_non, ty_bl, ty_int, ty_str, ty_lst, ty_scr, ty_tup, ty_dct, isa, String.reduceBEq, beq_self_eq_true, Bool.false_and, Bool.and_false, Bool.not_true, Bool.or_self, wYes, wCall, backS_0, backS_1, backS_2, backS_3, backS_4, backS_o0, backS_o1, backS_o2, backS_o3, dEq_int, dEq_str, dNeX_int, dNeX_str, List.length_cons, List.length_nil, List.cons_append, List.nil_append, List.replicate, Nat.reduceAdd, Nat.reduceSub, List.getElem?_cons_zero, List.getElem?_cons_succ, Option.bind_some, List.set_cons_zero, List.set_cons_succ, List.map_cons, List.map_nil, List.any_cons, List.any_nil, List.getD_cons_zero, List.getD_cons_succ, true_or, or_true, true_and, and_true, Bool.and_true, Bool.true_and, Bool.or_false, Bool.false_or, Bool.not_false, Bool.not_true, Bool.or_true, Bool.true_or, decide_true, decide_false, wFor, wRng1, wRng2, wLc, wSeqI, items, wEnumX, wCallO, wNever, noOwn, List.all_cons, List.all_nil, wipeS, Bool.and_self, decide_eq_true_eq, atI0a, atI0b, atI0c, atI1b, atI1c, atI2c, wZipX, seqP]
      exact ⟨hacc, hN'⟩
    · have e : (qs.map q4).map (fun d => match d with | .tup [a, b, c, _] => .tup [a, b, c] | _ => PD.non) = qs.map q3 := by
        rw [List.map_map]
        rfl
      rw [e]
      simp only [restore, wSeq, wNext, wIfS, wSetF, wSet, into, wSetIx, wRet, wRetN, wDrop, wB, wBin, wUn, wCB, wCons, wNil, wVar, wC, wIf, wAnd, wOr, DL.wNot, wAndV, wOrV, wNotV, wTup, wLst, wSl, wNoPart, wPart, wChain, wUnp, wgTup, wgCons, wgNil, wName, wIsi, wListRg, wRg1, wRg2, wTupRg, wPuts, puts, Rz.sd, wConsH, wAppend, wExtend, ownL, dI, dI0, dIx, dInt, dAbs, dLen, dMax2, dMin2, dSum, dAll, dAny, dList, dTuple, dAdd, dNeg, dIsN, dNotN, PD.isN, dSl, look, looks, ok, Rz.pd, SD.pd, OD.pd, Rz.cold, Rz.cool, warm, pdsOf, frz, frzAll, leave, argOf, onceB, newBor, isBor, ty_non, ty_bl, ty_int, ty_str, ty_lst, ty_scr, ty_tup, ty_dct, isa, String.reduceBEq, beq_self_eq_true, Bool.false_and, Bool.and_false, Bool.not_true, Bool.or_self, wYes, wCall, backS_0, backS_1, backS_2, backS_3, backS_4, backS_o0, backS_o1, backS_o2, backS_o3, dEq_int, dEq_str, dNeX_int, dNeX_str, List.length_cons, List.length_nil, List.cons_append, List.nil_append, List.replicate, Nat.reduceAdd, Nat.reduceSub, List.getElem?_cons_zero, List.getElem?_cons_succ, Option.bind_some, List.set_cons_zero, List.set_cons_succ, List.map_cons, List.map_nil, List.any_cons, List.any_nil, List.getD_cons_zero, List.getD_cons_succ, true_or, or_true, true_and, and_true, Bool.and_true, Bool.true_and, Bool.or_false, Bool.false_or, Bool.not_false, Bool.not_true, Bool.or_true, Bool.true_or, decide_true, decide_false, wFor, wRng1, wRng2, wLc, wSeqI, items, wEnumX, wCallO, wNever, noOwn, List.all_cons, List.all_nil, wipeS, Bool.and_self, decide_eq_true_eq, atI0a, atI0b, atI0c, atI1b, atI1c, atI2c, wZipX, seqP]
      exact ⟨.inr ⟨_, rfl⟩, hN⟩
  have last : forL (wName 7) (wSeq (wSetF 10 (wNotV (wCB dAny (wCons (wLc [18] (wSeqI (wVar 6)) (wName 18) wYes (wCall 3 (F__law_can_be cl) noX (wCons (wVar 7) (wCons (wBin (dI0 fun i j => .int (i - j)) (wVar 9) (wC (.int 1))) (wCons (wVar 18) wNil))))) wNil))))
  (wSeq (wIfS (wB (wBin dNeX (wVar 10) (wCall 2 (F__law_does_figure_serve cl) noX (wCons (wVar 4) (wCons (wVar 7) wNil))))) (wRet (wC (.bl false))) wNext)
  (wIfS (wB (wBin dNeX (wCB dReprX (wCons (wCall 2 (F_figures_serve cl) noX (wPick [1, 0] fun ρ Q => (wCons (wVar 7) (wCons (wVar 4) wNil)) ρ fun rs ρ1 => rs.length = 2 ∧ Q rs ρ1)) wNil)) (wCB dReprX (wCons (wVar 10) wNil)))) (wRet (wC (.bl false))) wNext))) svP { nx := N, rt := rt, bk := bk, ct := N } (R19 s (.dat (.lst svP)) s2 (.dat d) (.dat (bs ns)) (.dat (.lst ((ruleF ns (reach ns)).map rowP))) (.dat (.lst (qs.map q3))) s7 (.dat (devP (ownF ns 1))) (.dat (.int (W ns ns.length))) s10) := by
    refine forL_upto (fun k ρ => ∃ s7 s10, ρ = R19 s (.dat (.lst svP)) s2 (.dat d) (.dat (bs ns)) (.dat (.lst ((ruleF ns (reach ns)).map rowP))) (.dat (.lst (qs.map q3))) s7 (.dat (devP (ownF ns 1))) (.dat (.int (W ns ns.length))) s10) _ 0 _ ⟨_, _, rfl⟩ (fun k d' ρ N2 hj hI hN2 => ?_) (fun ρ hI => ?_)
    · obtain ⟨s7, s10, rfl⟩ := hI
      obtain ⟨p, hp', rfl⟩ := List.mem_map.mp (List.mem_of_getElem? hj)
      obtain ⟨w, n⟩ := p
      have hs := svcs_sv _ hp'
      have hdue := due w n hs
      show wSeq _ _ _ (R19 s (.dat (.lst svP)) s2 (.dat d) (.dat (bs ns)) (.dat (.lst ((ruleF ns (reach ns)).map rowP))) (.dat (.lst (qs.map q3))) (.dat (sv w n)) (.dat (devP (ownF ns 1))) (.dat (.int (W ns ns.length))) s10)
      refine seq_to (ρ' := R19 s (.dat (.lst svP)) s2 (.dat d) (.dat (bs ns)) (.dat (.lst ((ruleF ns (reach ns)).map rowP))) (.dat (.lst (qs.map q3))) (.dat (sv w n)) (.dat (devP (ownF ns 1))) (.dat (.int (W ns ns.length))) (.dat (.bl (Served w n ns)))) (fun N hN => ?_) ?_
      · simp only [R19, wSeq, wNext, wIfS, wSetF, wSet, into, wSetIx, wRet, wRetN, wDrop, wB, wBin, wUn, wCB, wCons, wNil, wVar, wC, wIf, wAnd, wOr, DL.wNot, wAndV, wOrV, wNotV, wTup, wLst, wSl, wNoPart, wPart, wChain, wUnp, wgTup, wgCons, wgNil, wName, wIsi, wListRg, wRg1, wRg2, wTupRg, wPuts, puts, Rz.sd, wConsH, wAppend, wExtend, ownL, dI, dI0, dIx, dInt, dAbs, dLen, dMax2, dMin2, dSum, dAll, dAny, dList, dTuple, dAdd, dNeg, dIsN, dNotN, PD.isN, dSl, look, looks, ok, Rz.pd, SD.pd, OD.pd, Rz.cold, Rz.cool, warm, pdsOf, frz, frzAll, leave, argOf, onceB, newBor, isBor, ty_non, ty_bl, ty_int, ty_str, ty_lst, ty_scr, ty_tup, ty_dct, isa, String.reduceBEq, beq_self_eq_true, Bool.false_and, Bool.and_false, Bool.not_true, Bool.or_self, wYes, wCall, backS_0, backS_1, backS_2, backS_3, backS_4, backS_o0, backS_o1, backS_o2, backS_o3, dEq_int, dEq_str, dNeX_int, dNeX_str, List.length_cons, List.length_nil, List.cons_append, List.nil_append, List.replicate, Nat.reduceAdd, Nat.reduceSub, List.getElem?_cons_zero, List.getElem?_cons_succ, Option.bind_some, List.set_cons_zero, List.set_cons_succ, List.map_cons, List.map_nil, List.any_cons, List.any_nil, List.getD_cons_zero, List.getD_cons_succ, true_or, or_true, true_and, and_true, Bool.and_true, Bool.true_and, Bool.or_false, Bool.false_or, Bool.not_false, Bool.not_true, Bool.or_true, Bool.true_or, decide_true, decide_false, wFor, wRng1, wRng2, wLc, wSeqI, items, wEnumX, wCallO, wNever, noOwn, List.all_cons, List.all_nil, wipeS, Bool.and_self, decide_eq_true_eq, atI0a, atI0b, atI0c, atI1b, atI1c, atI2c, wZipX, seqP]
        refine compL_same (g := fun d => match d with | .tup [.int x, .int y, .int z] => .bl (canB w n (W ns ns.length - 1) x y z) | _ => .non) (by rw [List.length_map]; omega) (fun d' hd acc N' hacc hN' => ?_) ?_
        · obtain ⟨q, hq, rfl⟩ := List.mem_map.mp hd
          obtain ⟨x, y, st, e⟩ := all_mem (hperm.mem_iff.mp hq)
          simp only [wSeq, wNext, wIfS, wSetF, wSet, into, wSetIx, wRet, wRetN, wDrop, wB, wBin, wUn, wCB, wCons, wNil, wVar, wC, wIf, wAnd, wOr, DL.wNot, wAndV, wOrV, wNotV, wTup, wLst, wSl, wNoPart, wPart, wChain, wUnp, wgTup, wgCons, wgNil, wName, wIsi, wListRg, wRg1, wRg2, wTupRg, wPuts, puts, Rz.sd, wConsH, wAppend, wExtend, ownL, dI, dI0, dIx, dInt, dAbs, dLen, dMax2, dMin2, dSum, dAll, dAny, dList, dTuple, dAdd, dNeg, dIsN, dNotN, PD.isN, dSl, look, looks, ok, Rz.pd, SD.pd, OD.pd, Rz.cold, Rz.cool, warm, pdsOf, frz, frzAll, leave, argOf, onceB, newBor, isBor, ty_non, ty_bl, ty_int, ty_str, ty_lst, ty_scr, ty_tup, ty_dct, isa, String.reduceBEq, beq_self_eq_true, Bool.false_and, Bool.and_false, Bool.not_true, Bool.or_self, wYes, wCall, backS_0, backS_1, backS_2, backS_3, backS_4, backS_o0, backS_o1, backS_o2, backS_o3, dEq_int, dEq_str, dNeX_int, dNeX_str, List.length_cons, List.length_nil, List.cons_append, List.nil_append, List.replicate, Nat.reduceAdd, Nat.reduceSub, List.getElem?_cons_zero, List.getElem?_cons_succ, Option.bind_some, List.set_cons_zero, List.set_cons_succ, List.map_cons, List.map_nil, List.any_cons, List.any_nil, List.getD_cons_zero, List.getD_cons_succ, true_or, or_true, true_and, and_true, Bool.and_true, Bool.true_and, Bool.or_false, Bool.false_or, Bool.not_false, Bool.not_true, Bool.or_true, Bool.true_or, decide_true, decide_false, wFor, wRng1, wRng2, wLc, wSeqI, items, wEnumX, wCallO, wNever, noOwn, List.all_cons, List.all_nil, wipeS, Bool.and_self, decide_eq_true_eq, atI0a, atI0b, atI0c, atI1b, atI1c, atI2c, wZipX, seqP]
          refine can_ok hs (by rw [e]; exact k5.s x y st) ?_
          simp only [wSeq, wNext, wIfS, wSetF, wSet, into, wSetIx, wRet, wRetN, wDrop, wB, wBin, wUn, wCB, wCons, wNil, wVar, wC, wIf, wAnd, wOr, DL.wNot, wAndV, wOrV, wNotV, wTup, wLst, wSl, wNoPart, wPart, wChain, wUnp, wgTup, wgCons, wgNil, wName, wIsi, wListRg, wRg1, wRg2, wTupRg, wPuts, puts, Rz.sd, wConsH, wAppend, wExtend, ownL, dI, dI0, dIx, dInt, dAbs, dLen, dMax2, dMin2, dSum, dAll, dAny, dList, dTuple, dAdd, dNeg, dIsN, dNotN, PD.isN, dSl, look, looks, ok, Rz.pd, SD.pd, OD.pd, Rz.cold, Rz.cool, warm, pdsOf, frz, frzAll, leave, argOf, onceB, newBor, isBor, ty_non, ty_bl, ty_int, ty_str, ty_lst, ty_scr, ty_tup, ty_dct, isa, String.reduceBEq, beq_self_eq_true, Bool.false_and, Bool.and_false, Bool.not_true, Bool.or_self, wYes, wCall, backS_0, backS_1, backS_2, backS_3, backS_4, backS_o0, backS_o1, backS_o2, backS_o3, dEq_int, dEq_str, dNeX_int, dNeX_str, List.length_cons, List.length_nil, List.cons_append, List.nil_append, List.replicate, Nat.reduceAdd, Nat.reduceSub, List.getElem?_cons_zero, List.getElem?_cons_succ, Option.bind_some, List.set_cons_zero, List.set_cons_succ, List.map_cons, List.map_nil, List.any_cons, List.any_nil, List.getD_cons_zero, List.getD_cons_succ, true_or, or_true, true_and, and_true, Bool.and_true, Bool.true_and, Bool.or_false, Bool.false_or, Bool.not_false, Bool.not_true, Bool.or_true, Bool.true_or, decide_true, decide_false, wFor, wRng1, wRng2, wLc, wSeqI, items, wEnumX, wCallO, wNever, noOwn, List.all_cons, List.all_nil, wipeS, Bool.and_self, decide_eq_true_eq, atI0a, atI0b, atI0c, atI1b, atI1c, atI2c, wZipX, seqP]
          exact ⟨hacc, hN'⟩
        · have e : (qs.map q3).map (fun d => match d with | .tup [.int x, .int y, .int z] => .bl (canB w n (W ns ns.length - 1) x y z) | _ => PD.non) = qs.map fun q => PD.bl (canB w n (W ns ns.length - 1) q.1 q.2.1 q.2.2.1) := by
            rw [List.map_map]
            rfl
          rw [e]
          simp only [restore, bools_map, wSeq, wNext, wIfS, wSetF, wSet, into, wSetIx, wRet, wRetN, wDrop, wB, wBin, wUn, wCB, wCons, wNil, wVar, wC, wIf, wAnd, wOr, DL.wNot, wAndV, wOrV, wNotV, wTup, wLst, wSl, wNoPart, wPart, wChain, wUnp, wgTup, wgCons, wgNil, wName, wIsi, wListRg, wRg1, wRg2, wTupRg, wPuts, puts, Rz.sd, wConsH, wAppend, wExtend, ownL, dI, dI0, dIx, dInt, dAbs, dLen, dMax2, dMin2, dSum, dAll, dAny, dList, dTuple, dAdd, dNeg, dIsN, dNotN, PD.isN, dSl, look, looks, ok, Rz.pd, SD.pd, OD.pd, Rz.cold, Rz.cool, warm, pdsOf, frz, frzAll, leave, argOf, onceB, newBor, isBor, ty_non, ty_bl, ty_int, ty_str, ty_lst, ty_scr, ty_tup, ty_dct, isa, String.reduceBEq, beq_self_eq_true, Bool.false_and, Bool.and_false, Bool.not_true, Bool.or_self, wYes, wCall, backS_0, backS_1, backS_2, backS_3, backS_4, backS_o0, backS_o1, backS_o2, backS_o3, dEq_int, dEq_str, dNeX_int, dNeX_str, List.length_cons, List.length_nil, List.cons_append, List.nil_append, List.replicate, Nat.reduceAdd, Nat.reduceSub, List.getElem?_cons_zero, List.getElem?_cons_succ, Option.bind_some, List.set_cons_zero, List.set_cons_succ, List.map_cons, List.map_nil, List.any_cons, List.any_nil, List.getD_cons_zero, List.getD_cons_succ, true_or, or_true, true_and, and_true, Bool.and_true, Bool.true_and, Bool.or_false, Bool.false_or, Bool.not_false, Bool.not_true, Bool.or_true, Bool.true_or, decide_true, decide_false, wFor, wRng1, wRng2, wLc, wSeqI, items, wEnumX, wCallO, wNever, noOwn, List.all_cons, List.all_nil, wipeS, Bool.and_self, decide_eq_true_eq, atI0a, atI0b, atI0c, atI1b, atI1c, atI2c, wZipX, seqP]
          refine ⟨.inr ⟨_, rfl⟩, ?_⟩
          have e2 : (!((qs.map fun q => canB w n (W ns ns.length - 1) q.1 q.2.1 q.2.2.1).any id)) = Served w n ns := by
            rw [← hdue, dueB, er, List.any_map]
            rw [hperm.any_eq]
            rfl
          rw [e2]
          exact hN
      refine seq_to (ρ' := R19 s (.dat (.lst svP)) s2 (.dat d) (.dat (bs ns)) (.dat (.lst ((ruleF ns (reach ns)).map rowP))) (.dat (.lst (qs.map q3))) (.dat (sv w n)) (.dat (devP (ownF ns 1))) (.dat (.int (W ns ns.length))) (.dat (.bl (Served w n ns)))) (fun N hN => ?_) ?_
      · simp only [R19, wSeq, wNext, wIfS, wSetF, wSet, into, wSetIx, wRet, wRetN, wDrop, wB, wBin, wUn, wCB, wCons, wNil, wVar, wC, wIf, wAnd, wOr, DL.wNot, wAndV, wOrV, wNotV, wTup, wLst, wSl, wNoPart, wPart, wChain, wUnp, wgTup, wgCons, wgNil, wName, wIsi, wListRg, wRg1, wRg2, wTupRg, wPuts, puts, Rz.sd, wConsH, wAppend, wExtend, ownL, dI, dI0, dIx, dInt, dAbs, dLen, dMax2, dMin2, dSum, dAll, dAny, dList, dTuple, dAdd, dNeg, dIsN, dNotN, PD.isN, dSl, look, looks, ok, Rz.pd, SD.pd, OD.pd, Rz.cold, Rz.cool, warm, pdsOf, frz, frzAll, leave, argOf, onceB, newBor, isBor, ty_non, ty_bl, ty_int, ty_str, ty_lst, ty_scr, ty_tup, ty_dct, isa, String.reduceBEq, beq_self_eq_true, Bool.false_and, Bool.and_false, Bool.not_true, Bool.or_self, wYes, wCall, backS_0, backS_1, backS_2, backS_3, backS_4, backS_o0, backS_o1, backS_o2, backS_o3, dEq_int, dEq_str, dNeX_int, dNeX_str, List.length_cons, List.length_nil, List.cons_append, List.nil_append, List.replicate, Nat.reduceAdd, Nat.reduceSub, List.getElem?_cons_zero, List.getElem?_cons_succ, Option.bind_some, List.set_cons_zero, List.set_cons_succ, List.map_cons, List.map_nil, List.any_cons, List.any_nil, List.getD_cons_zero, List.getD_cons_succ, true_or, or_true, true_and, and_true, Bool.and_true, Bool.true_and, Bool.or_false, Bool.false_or, Bool.not_false, Bool.not_true, Bool.or_true, Bool.true_or, decide_true, decide_false, wFor, wRng1, wRng2, wLc, wSeqI, items, wEnumX, wCallO, wNever, noOwn, List.all_cons, List.all_nil, wipeS, Bool.and_self, decide_eq_true_eq, atI0a, atI0b, atI0c, atI1b, atI1c, atI2c, wZipX, seqP]
        refine does_serve_ok hs (by omega) ?_
        simp only [dNeX_bl, wSeq, wNext, wIfS, wSetF, wSet, into, wSetIx, wRet, wRetN, wDrop, wB, wBin, wUn, wCB, wCons, wNil, wVar, wC, wIf, wAnd, wOr, DL.wNot, wAndV, wOrV, wNotV, wTup, wLst, wSl, wNoPart, wPart, wChain, wUnp, wgTup, wgCons, wgNil, wName, wIsi, wListRg, wRg1, wRg2, wTupRg, wPuts, puts, Rz.sd, wConsH, wAppend, wExtend, ownL, dI, dI0, dIx, dInt, dAbs, dLen, dMax2, dMin2, dSum, dAll, dAny, dList, dTuple, dAdd, dNeg, dIsN, dNotN, PD.isN, dSl, look, looks, ok, Rz.pd, SD.pd, OD.pd, Rz.cold, Rz.cool, warm, pdsOf, frz, frzAll, leave, argOf, onceB, newBor, isBor, ty_non, ty_bl, ty_int, ty_str, ty_lst, ty_scr, ty_tup, ty_dct, isa, String.reduceBEq, beq_self_eq_true, Bool.false_and, Bool.and_false, Bool.not_true, Bool.or_self, wYes, wCall, backS_0, backS_1, backS_2, backS_3, backS_4, backS_o0, backS_o1, backS_o2, backS_o3, dEq_int, dEq_str, dNeX_int, dNeX_str, List.length_cons, List.length_nil, List.cons_append, List.nil_append, List.replicate, Nat.reduceAdd, Nat.reduceSub, List.getElem?_cons_zero, List.getElem?_cons_succ, Option.bind_some, List.set_cons_zero, List.set_cons_succ, List.map_cons, List.map_nil, List.any_cons, List.any_nil, List.getD_cons_zero, List.getD_cons_succ, true_or, or_true, true_and, and_true, Bool.and_true, Bool.true_and, Bool.or_false, Bool.false_or, Bool.not_false, Bool.not_true, Bool.or_true, Bool.true_or, decide_true, decide_false, wFor, wRng1, wRng2, wLc, wSeqI, items, wEnumX, wCallO, wNever, noOwn, List.all_cons, List.all_nil, wipeS, Bool.and_self, decide_eq_true_eq, atI0a, atI0b, atI0c, atI1b, atI1c, atI2c, wZipX, seqP]
        exact hN
      · simp only [R19, wPick, pick, List.filterMap_cons, List.filterMap_nil, wSeq, wNext, wIfS, wSetF, wSet, into, wSetIx, wRet, wRetN, wDrop, wB, wBin, wUn, wCB, wCons, wNil, wVar, wC, wIf, wAnd, wOr, DL.wNot, wAndV, wOrV, wNotV, wTup, wLst, wSl, wNoPart, wPart, wChain, wUnp, wgTup, wgCons, wgNil, wName, wIsi, wListRg, wRg1, wRg2, wTupRg, wPuts, puts, Rz.sd, wConsH, wAppend, wExtend, ownL, dI, dI0, dIx, dInt, dAbs, dLen, dMax2, dMin2, dSum, dAll, dAny, dList, dTuple, dAdd, dNeg, dIsN, dNotN, PD.isN, dSl, look, looks, ok, Rz.pd, SD.pd, OD.pd, Rz.cold, Rz.cool, warm, pdsOf, frz, frzAll, leave, argOf, onceB, newBor, isBor, ty_non, ty_bl, ty_int, ty_str, ty_lst, ty_scr, ty_tup, ty_dct, isa, String.reduceBEq, beq_self_eq_true, Bool.false_and, Bool.and_false, Bool.not_true, Bool.or_self, wYes, wCall, backS_0, backS_1, backS_2, backS_3, backS_4, backS_o0, backS_o1, backS_o2, backS_o3, dEq_int, dEq_str, dNeX_int, dNeX_str, List.length_cons, List.length_nil, List.cons_append, List.nil_append, List.replicate, Nat.reduceAdd, Nat.reduceSub, List.getElem?_cons_zero, List.getElem?_cons_succ, Option.bind_some, List.set_cons_zero, List.set_cons_succ, List.map_cons, List.map_nil, List.any_cons, List.any_nil, List.getD_cons_zero, List.getD_cons_succ, true_or, or_true, true_and, and_true, Bool.and_true, Bool.true_and, Bool.or_false, Bool.false_or, Bool.not_false, Bool.not_true, Bool.or_true, Bool.true_or, decide_true, decide_false, wFor, wRng1, wRng2, wLc, wSeqI, items, wEnumX, wCallO, wNever, noOwn, List.all_cons, List.all_nil, wipeS, Bool.and_self, decide_eq_true_eq, atI0a, atI0b, atI0c, atI1b, atI1c, atI2c, wZipX, seqP]
        refine figures_serve_ok hb h1 (by omega) hs ?_
        simp only [dRepr_bl, dNeX_str (tf_ok _) (tf_ok _), ne_eq, not_true_eq_false, decide_false, wSeq, wNext, wIfS, wSetF, wSet, into, wSetIx, wRet, wRetN, wDrop, wB, wBin, wUn, wCB, wCons, wNil, wVar, wC, wIf, wAnd, wOr, DL.wNot, wAndV, wOrV, wNotV, wTup, wLst, wSl, wNoPart, wPart, wChain, wUnp, wgTup, wgCons, wgNil, wName, wIsi, wListRg, wRg1, wRg2, wTupRg, wPuts, puts, Rz.sd, wConsH, wAppend, wExtend, ownL, dI, dI0, dIx, dInt, dAbs, dLen, dMax2, dMin2, dSum, dAll, dAny, dList, dTuple, dAdd, dNeg, dIsN, dNotN, PD.isN, dSl, look, looks, ok, Rz.pd, SD.pd, OD.pd, Rz.cold, Rz.cool, warm, pdsOf, frz, frzAll, leave, argOf, onceB, newBor, isBor, ty_non, ty_bl, ty_int, ty_str, ty_lst, ty_scr, ty_tup, ty_dct, isa, String.reduceBEq, beq_self_eq_true, Bool.false_and, Bool.and_false, Bool.not_true, Bool.or_self, wYes, wCall, backS_0, backS_1, backS_2, backS_3, backS_4, backS_o0, backS_o1, backS_o2, backS_o3, dEq_int, dEq_str, dNeX_int, dNeX_str, List.length_cons, List.length_nil, List.cons_append, List.nil_append, List.replicate, Nat.reduceAdd, Nat.reduceSub, List.getElem?_cons_zero, List.getElem?_cons_succ, Option.bind_some, List.set_cons_zero, List.set_cons_succ, List.map_cons, List.map_nil, List.any_cons, List.any_nil, List.getD_cons_zero, List.getD_cons_succ, true_or, or_true, true_and, and_true, Bool.and_true, Bool.true_and, Bool.or_false, Bool.false_or, Bool.not_false, Bool.not_true, Bool.or_true, Bool.true_or, decide_true, decide_false, wFor, wRng1, wRng2, wLc, wSeqI, items, wEnumX, wCallO, wNever, noOwn, List.all_cons, List.all_nil, wipeS, Bool.and_self, decide_eq_true_eq, atI0a, atI0b, atI0c, atI1b, atI1c, atI2c, wZipX, seqP]
        exact hN2 _ ⟨_, _, rfl⟩
    · obtain ⟨s7, s10, rfl⟩ := hI
      exact hN _ ⟨s, _, s2, _, _, _, _, _, _, _, _, hp, .inr rfl, rfl⟩
  rcases hD with rfl | rfl
  · refine ⟨.inr ⟨_, rfl⟩, ?_⟩
    exact last
  · refine ⟨.inl rfl, ?_⟩
    exact last
end Lk

set_option Elab.async false
set_option linter.all false
set_option maxRecDepth 100000
set_option maxHeartbeats 4000000
set_option exponentiation.threshold 3000
namespace Lk
open PySem L2 DL
theorem rep_flat (k : Nat) (d : PD) : (List.replicate k [d]).flatten = List.replicate k d := by
  induction k with
  | zero => rfl
  | succ k ih => rw [List.replicate_succ, List.flatten_cons, ih]; rfl
/-- a lap over bases of any length -/
theorem lapD_ok {cl : Nat → Addr} {m : Int} {d : PD} {ρ : Sl} {N : Sl → Prop} {rt : Rz → Sl → Prop} {bk : Sl → Prop} (hm : 0 ≤ m ∧ m ≤ 100000) (hG : G19 m ρ) (hN : ∀ ρ', G19 (m + 50) ρ' → N ρ') :
    (wSeq (wSetF 4 (wCB dTuple (wCons (wLc [17] (wRng1 (wCons (wBin dAdd (wC (.int 1)) (wCall 2 (F__law_take cl) noX (wCons (wVar 0) (wCons (wC (.int 40)) wNil)))) wNil)) (wName 17) wYes (wCB dInt (wCons (wCall 2 (F__law_of cl) noX (wCons (wVar 0) (wCons (wLst (wCons (wC (.int 2)) (wCons (wC (.int 3)) (wCons (wC (.int 4)) (wCons (wC (.int 4)) wNil))))) wNil))) wNil))) wNil)))
  (wSeq (wIfS (wB (wBin dEq (wCall 2 (F__law_take cl) noX (wCons (wVar 0) (wCons (wC (.int 2)) wNil))) (wC (.int 0)))) (wSetF 4 (wBin dAdd (wBin dTm (wTup (wCons (wCB dInt (wCons (wC (.int 3)) wNil)) wNil)) (wBin (dI0 fun i j => .int (i - j)) (wCB dLen (wCons (wVar 4) wNil)) (wC (.int 1)))) (wTup (wCons (wCB dInt (wCons (wCall 2 (F__law_of cl) noX (wCons (wVar 0) (wCons (wLst (wCons (wC (.int 2)) (wCons (wC (.int 3)) (wCons (wC (.int 4)) wNil)))) wNil))) wNil)) wNil)))) wNext)
  (wFor (wSeqI (wVar 1)) (wName 7) (wIfS (wB (wBin dNeX (wCB dReprX (wCons (wCall 2 (F_figures_serve cl) noX (wCons (wVar 4) (wCons (wVar 7) wNil))) wNil)) (wCB dReprX (wCons (wCall 2 (F__law_does_figure_serve cl) noX (wCons (wVar 4) (wCons (wVar 7) wNil))) wNil)))) (wRet (wC (.bl false))) wNext))))
    { nx := N, rt := rt, bk := bk, ct := N } (ρ.set 3 (.dat d)) := by
  obtain ⟨s, D1, s2, s3, s4, s5, s6, s7, s8, s9, s10, hp, hD, rfl⟩ := hG
  have z1 : (1 : Nat) ≤ sizeLine := sz (by decide)
  have z2 : (2 : Nat) ≤ sizeLine := sz (by decide)
  have z3 : (3 : Nat) ≤ sizeLine := sz (by decide)
  have z4 : (4 : Nat) ≤ sizeLine := sz (by decide)
  show wSeq _ _ _ (R19 s D1 s2 (.dat d) s4 s5 s6 s7 s8 s9 s10)
  refine seq_by (fun ρ' => ∃ s ns, Pot (m + 41) s ∧ Bases ns ∧ 1 ≤ ns.length ∧ ns.length ≤ 40 ∧ ρ' = R19 s D1 s2 (.dat d) (.dat (bs ns)) s5 s6 s7 s8 s9 s10) (fun N hN => ?_) (fun ρ hρ => ?_)
  · obtain ⟨o, rfl⟩ := hp.own
    simp only [R19, wSeq, wNext, wIfS, wSetF, wSet, into, wSetIx, wRet, wRetN, wDrop, wB, wBin, wUn, wCB, wCons, wNil, wVar, wC, wIf, wAnd, wOr, DL.wNot, wAndV, wOrV, wNotV, wTup, wLst, wSl, wNoPart, wPart, wChain, wUnp, wgTup, wgCons, wgNil, wName, wIsi, wListRg, wRg1, wRg2, wTupRg, wPuts, puts, Rz.sd, wConsH, wAppend, wExtend, ownL, dI, dI0, dIx, dInt, dAbs, dLen, dMax2, dMin2, dSum, dAll, dAny, dList, dTuple, dAdd, dNeg, dIsN, dNotN, PD.isN, dSl, look, looks, ok, Rz.pd, SD.pd, OD.pd, Rz.cold, Rz.cool, warm, pdsOf, frz, frzAll, leave, argOf, onceB, newBor, isBor, ty_non, ty_bl, ty_int, ty_str, ty_lst, ty_scr, ty_tup, ty_dct, isa, String.reduceBEq, beq_self_eq_true, Bool.false_and, Bool.and_false, Bool.not_true, Bool.or_self, wYes, wCall, backS_0, backS_1, backS_2, backS_3, backS_4, backS_o0, backS_o1, backS_o2, backS_o3, dEq_int, dEq_str, dNeX_int, dNeX_str, List.length_cons, List.length_nil, List.cons_append, List.nil_append, List.replicate, Nat.reduceAdd, Nat.reduceSub, List.getElem?_cons_zero, List.getElem?_cons_succ, Option.bind_some, List.set_cons_zero, List.set_cons_succ, List.map_cons, List.map_nil, List.any_cons, List.any_nil, List.getD_cons_zero, List.getD_cons_succ, true_or, or_true, true_and, and_true, Bool.and_true, Bool.true_and, Bool.or_false, Bool.false_or, Bool.not_false, Bool.not_true, Bool.or_true, Bool.true_or, decide_true, decide_false, wFor, wRng1, wRng2, wLc, wSeqI, items, wEnumX, wCallO, wNever, noOwn, List.all_cons, List.all_nil, wipeS, Bool.and_self, decide_eq_true_eq, atI0a, atI0b, atI0c, atI1b, atI1c, atI2c, wZipX, seqP]
    simp only [e_take, e_of]
    refine take_ok ab hp (by omega) (by decide) (sm_big (by decide)) fun c s' c0 c1 hp => ?_
    obtain ⟨o, rfl⟩ := hp.own
    simp only [backS_h1, wSeq, wNext, wIfS, wSetF, wSet, into, wSetIx, wRet, wRetN, wDrop, wB, wBin, wUn, wCB, wCons, wNil, wVar, wC, wIf, wAnd, wOr, DL.wNot, wAndV, wOrV, wNotV, wTup, wLst, wSl, wNoPart, wPart, wChain, wUnp, wgTup, wgCons, wgNil, wName, wIsi, wListRg, wRg1, wRg2, wTupRg, wPuts, puts, Rz.sd, wConsH, wAppend, wExtend, ownL, dI, dI0, dIx, dInt, dAbs, dLen, dMax2, dMin2, dSum, dAll, dAny, dList, dTuple, dAdd, dNeg, dIsN, dNotN, PD.isN, dSl, look, looks, ok, Rz.pd, SD.pd, OD.pd, Rz.cold, Rz.cool, warm, pdsOf, frz, frzAll, leave, argOf, onceB, newBor, isBor, ty_non, ty_bl, ty_int, ty_str, ty_lst, ty_scr, ty_tup, ty_dct, isa, String.reduceBEq, beq_self_eq_true, Bool.false_and, Bool.and_false, Bool.not_true, Bool.or_self, wYes, wCall, backS_0, backS_1, backS_2, backS_3, backS_4, backS_o0, backS_o1, backS_o2, backS_o3, dEq_int, dEq_str, dNeX_int, dNeX_str, List.length_cons, List.length_nil, List.cons_append, List.nil_append, List.replicate, Nat.reduceAdd, Nat.reduceSub, List.getElem?_cons_zero, List.getElem?_cons_succ, Option.bind_some, List.set_cons_zero, List.set_cons_succ, List.map_cons, List.map_nil, List.any_cons, List.any_nil, List.getD_cons_zero, List.getD_cons_succ, true_or, or_true, true_and, and_true, Bool.and_true, Bool.true_and, Bool.or_false, Bool.false_or, Bool.not_false, Bool.not_true, Bool.or_true, Bool.true_or, decide_true, decide_false, wFor, wRng1, wRng2, wLc, wSeqI, items, wEnumX, wCallO, wNever, noOwn, List.all_cons, List.all_nil, wipeS, Bool.and_self, decide_eq_true_eq, atI0a, atI0b, atI0c, atI1b, atI1c, atI2c, wZipX, seqP]
    refine ⟨⟨by omega, by omega⟩, ?_⟩
    generalize hk : (1 + c).toNat = k
    refine compL_upto (fun t acc ρ' => ∃ s ns, Pot (m + 1 + t) s ∧ Bases ns ∧ ns.length = t ∧ acc = ns.map .int ∧ ρ' = R19 s D1 s2 (.dat d) s4 s5 s6 s7 s8 s9 s10) _ 0 _ _ ⟨_, [], hp.mono (by omega), (fun x hx => nomatch hx), rfl, rfl, rfl⟩ (fun t e acc ρ N ht hI hN => ?_) (fun acc ρ hI => ?_)
    · obtain ⟨s, ns, hp, hb, hbl, rfl, rfl⟩ := hI
      obtain ⟨rfl, htl⟩ := rg_at ht
      obtain ⟨o, rfl⟩ := hp.own
      simp only [R19, z4, backS_h1, wSeq, wNext, wIfS, wSetF, wSet, into, wSetIx, wRet, wRetN, wDrop, wB, wBin, wUn, wCB, wCons, wNil, wVar, wC, wIf, wAnd, wOr, DL.wNot, wAndV, wOrV, wNotV, wTup, wLst, wSl, wNoPart, wPart, wChain, wUnp, wgTup, wgCons, wgNil, wName, wIsi, wListRg, wRg1, wRg2, wTupRg, wPuts, puts, Rz.sd, wConsH, wAppend, wExtend, ownL, dI, dI0, dIx, dInt, dAbs, dLen, dMax2, dMin2, dSum, dAll, dAny, dList, dTuple, dAdd, dNeg, dIsN, dNotN, PD.isN, dSl, look, looks, ok, Rz.pd, SD.pd, OD.pd, Rz.cold, Rz.cool, warm, pdsOf, frz, frzAll, leave, argOf, onceB, newBor, isBor, ty_non, ty_bl, ty_int, ty_str, ty_lst, ty_scr, ty_tup, ty_dct, isa, String.reduceBEq, beq_self_eq_true, Bool.false_and, Bool.and_false, Bool.not_true, Bool.or_self, wYes, wCall, backS_0, backS_1, backS_2, backS_3, backS_4, backS_o0, backS_o1, backS_o2, backS_o3, dEq_int, dEq_str, dNeX_int, dNeX_str, List.length_cons, List.length_nil, List.cons_append, List.nil_append, List.replicate, Nat.reduceAdd, Nat.reduceSub, List.getElem?_cons_zero, List.getElem?_cons_succ, Option.bind_some, List.set_cons_zero, List.set_cons_succ, List.map_cons, List.map_nil, List.any_cons, List.any_nil, List.getD_cons_zero, List.getD_cons_succ, true_or, or_true, true_and, and_true, Bool.and_true, Bool.true_and, Bool.or_false, Bool.false_or, Bool.not_false, Bool.not_true, Bool.or_true, Bool.true_or, decide_true, decide_false, wFor, wRng1, wRng2, wLc, wSeqI, items, wEnumX, wCallO, wNever, noOwn, List.all_cons, List.all_nil, wipeS, Bool.and_self, decide_eq_true_eq, atI0a, atI0b, atI0c, atI1b, atI1c, atI2c, wZipX, seqP]
      refine ⟨.inr ⟨_, rfl⟩, of_ok ab hp (by omega) (Nat.zero_lt_succ _) (by simp) fun x s' hx hp => ?_⟩
      have hx : ∃ v : Int, x = .int v ∧ 2 ≤ v ∧ v ≤ 4 := by
        simp only [List.mem_cons, List.not_mem_nil, or_false] at hx
        rcases hx with rfl | rfl | rfl | rfl
        · exact ⟨_, rfl, by decide, by decide⟩
        · exact ⟨_, rfl, by decide, by decide⟩
        · exact ⟨_, rfl, by decide, by decide⟩
        · exact ⟨_, rfl, by decide, by decide⟩
      obtain ⟨v, rfl, v0, v1⟩ := hx
      obtain ⟨o, rfl⟩ := hp.own
      simp only [backS_h1, wSeq, wNext, wIfS, wSetF, wSet, into, wSetIx, wRet, wRetN, wDrop, wB, wBin, wUn, wCB, wCons, wNil, wVar, wC, wIf, wAnd, wOr, DL.wNot, wAndV, wOrV, wNotV, wTup, wLst, wSl, wNoPart, wPart, wChain, wUnp, wgTup, wgCons, wgNil, wName, wIsi, wListRg, wRg1, wRg2, wTupRg, wPuts, puts, Rz.sd, wConsH, wAppend, wExtend, ownL, dI, dI0, dIx, dInt, dAbs, dLen, dMax2, dMin2, dSum, dAll, dAny, dList, dTuple, dAdd, dNeg, dIsN, dNotN, PD.isN, dSl, look, looks, ok, Rz.pd, SD.pd, OD.pd, Rz.cold, Rz.cool, warm, pdsOf, frz, frzAll, leave, argOf, onceB, newBor, isBor, ty_non, ty_bl, ty_int, ty_str, ty_lst, ty_scr, ty_tup, ty_dct, isa, String.reduceBEq, beq_self_eq_true, Bool.false_and, Bool.and_false, Bool.not_true, Bool.or_self, wYes, wCall, backS_0, backS_1, backS_2, backS_3, backS_4, backS_o0, backS_o1, backS_o2, backS_o3, dEq_int, dEq_str, dNeX_int, dNeX_str, List.length_cons, List.length_nil, List.cons_append, List.nil_append, List.replicate, Nat.reduceAdd, Nat.reduceSub, List.getElem?_cons_zero, List.getElem?_cons_succ, Option.bind_some, List.set_cons_zero, List.set_cons_succ, List.map_cons, List.map_nil, List.any_cons, List.any_nil, List.getD_cons_zero, List.getD_cons_succ, true_or, or_true, true_and, and_true, Bool.and_true, Bool.true_and, Bool.or_false, Bool.false_or, Bool.not_false, Bool.not_true, Bool.or_true, Bool.true_or, decide_true, decide_false, wFor, wRng1, wRng2, wLc, wSeqI, items, wEnumX, wCallO, wNever, noOwn, List.all_cons, List.all_nil, wipeS, Bool.and_self, decide_eq_true_eq, atI0a, atI0b, atI0c, atI1b, atI1c, atI2c, wZipX, seqP]
      refine ⟨by rw [List.length_map]; exact sz' (by omega), hN _ _ ⟨_, ns ++ [v], hp.mono (by omega), fun x hx => ?_, by rw [List.length_append, hbl]; rfl, by rw [List.map_append]; rfl, rfl⟩⟩
      rcases List.mem_append.mp hx with hx | hx
      · exact hb x hx
      · rw [List.mem_singleton] at hx; subst hx; exact ⟨v0, v1⟩
    · obtain ⟨s, ns, hp, hb, hbl, rfl, rfl⟩ := hI
      rw [rg_len] at hbl hp
      obtain ⟨o, rfl⟩ := hp.own
      simp only [R19, restore, wSeq, wNext, wIfS, wSetF, wSet, into, wSetIx, wRet, wRetN, wDrop, wB, wBin, wUn, wCB, wCons, wNil, wVar, wC, wIf, wAnd, wOr, DL.wNot, wAndV, wOrV, wNotV, wTup, wLst, wSl, wNoPart, wPart, wChain, wUnp, wgTup, wgCons, wgNil, wName, wIsi, wListRg, wRg1, wRg2, wTupRg, wPuts, puts, Rz.sd, wConsH, wAppend, wExtend, ownL, dI, dI0, dIx, dInt, dAbs, dLen, dMax2, dMin2, dSum, dAll, dAny, dList, dTuple, dAdd, dNeg, dIsN, dNotN, PD.isN, dSl, look, looks, ok, Rz.pd, SD.pd, OD.pd, Rz.cold, Rz.cool, warm, pdsOf, frz, frzAll, leave, argOf, onceB, newBor, isBor, ty_non, ty_bl, ty_int, ty_str, ty_lst, ty_scr, ty_tup, ty_dct, isa, String.reduceBEq, beq_self_eq_true, Bool.false_and, Bool.and_false, Bool.not_true, Bool.or_self, wYes, wCall, backS_0, backS_1, backS_2, backS_3, backS_4, backS_o0, backS_o1, backS_o2, backS_o3, dEq_int, dEq_str, dNeX_int, dNeX_str, List.length_cons, List.length_nil, List.cons_append, List.nil_append, List.replicate, Nat.reduceAdd, Nat.reduceSub, List.getElem?_cons_zero, List.getElem?_cons_succ, Option.bind_some, List.set_cons_zero, List.set_cons_succ, List.map_cons, List.map_nil, List.any_cons, List.any_nil, List.getD_cons_zero, List.getD_cons_succ, true_or, or_true, true_and, and_true, Bool.and_true, Bool.true_and, Bool.or_false, Bool.false_or, Bool.not_false, Bool.not_true, Bool.or_true, Bool.true_or, decide_true, decide_false, wFor, wRng1, wRng2, wLc, wSeqI, items, wEnumX, wCallO, wNever, noOwn, List.all_cons, List.all_nil, wipeS, Bool.and_self, decide_eq_true_eq, atI0a, atI0b, atI0c, atI1b, atI1c, atI2c, wZipX, seqP]
      exact ⟨.inr ⟨_, rfl⟩, hN _ ⟨_, ns, hp.mono (by omega), hb, by omega, by omega, rfl⟩⟩
  obtain ⟨s, ns, hp, hb, h1, h2, rfl⟩ := hρ
  refine seq_by (fun ρ' => ∃ s ns, Pot (m + 43) s ∧ Bases ns ∧ 1 ≤ ns.length ∧ ns.length ≤ 40 ∧ ρ' = R19 s D1 s2 (.dat d) (.dat (bs ns)) s5 s6 s7 s8 s9 s10) (fun N hN => ?_) (fun ρ hρ => ?_)
  · obtain ⟨o, rfl⟩ := hp.own
    simp only [R19, wSeq, wNext, wIfS, wSetF, wSet, into, wSetIx, wRet, wRetN, wDrop, wB, wBin, wUn, wCB, wCons, wNil, wVar, wC, wIf, wAnd, wOr, DL.wNot, wAndV, wOrV, wNotV, wTup, wLst, wSl, wNoPart, wPart, wChain, wUnp, wgTup, wgCons, wgNil, wName, wIsi, wListRg, wRg1, wRg2, wTupRg, wPuts, puts, Rz.sd, wConsH, wAppend, wExtend, ownL, dI, dI0, dIx, dInt, dAbs, dLen, dMax2, dMin2, dSum, dAll, dAny, dList, dTuple, dAdd, dNeg, dIsN, dNotN, PD.isN, dSl, look, looks, ok, Rz.pd, SD.pd, OD.pd, Rz.cold, Rz.cool, warm, pdsOf, frz, frzAll, leave, argOf, onceB, newBor, isBor, ty_non, ty_bl, ty_int, ty_str, ty_lst, ty_scr, ty_tup, ty_dct, isa, String.reduceBEq, beq_self_eq_true, Bool.false_and, Bool.and_false, Bool.not_true, Bool.or_self, wYes, wCall, backS_0, backS_1, backS_2, backS_3, backS_4, backS_o0, backS_o1, backS_o2, backS_o3, dEq_int, dEq_str, dNeX_int, dNeX_str, List.length_cons, List.length_nil, List.cons_append, List.nil_append, List.replicate, Nat.reduceAdd, Nat.reduceSub, List.getElem?_cons_zero, List.getElem?_cons_succ, Option.bind_some, List.set_cons_zero, List.set_cons_succ, List.map_cons, List.map_nil, List.any_cons, List.any_nil, List.getD_cons_zero, List.getD_cons_succ, true_or, or_true, true_and, and_true, Bool.and_true, Bool.true_and, Bool.or_false, Bool.false_or, Bool.not_false, Bool.not_true, Bool.or_true, Bool.true_or, decide_true, decide_false, wFor, wRng1, wRng2, wLc, wSeqI, items, wEnumX, wCallO, wNever, noOwn, List.all_cons, List.all_nil, wipeS, Bool.and_self, decide_eq_true_eq, atI0a, atI0b, atI0c, atI1b, atI1c, atI2c, wZipX, seqP]
    simp only [e_take, e_of]
    refine take_ok ab hp (by omega) (by decide) (sm_big (by decide)) fun c s' c0 c1 hp => ?_
    obtain ⟨o, rfl⟩ := hp.own
    simp only [backS_h1, wSeq, wNext, wIfS, wSetF, wSet, into, wSetIx, wRet, wRetN, wDrop, wB, wBin, wUn, wCB, wCons, wNil, wVar, wC, wIf, wAnd, wOr, DL.wNot, wAndV, wOrV, wNotV, wTup, wLst, wSl, wNoPart, wPart, wChain, wUnp, wgTup, wgCons, wgNil, wName, wIsi, wListRg, wRg1, wRg2, wTupRg, wPuts, puts, Rz.sd, wConsH, wAppend, wExtend, ownL, dI, dI0, dIx, dInt, dAbs, dLen, dMax2, dMin2, dSum, dAll, dAny, dList, dTuple, dAdd, dNeg, dIsN, dNotN, PD.isN, dSl, look, looks, ok, Rz.pd, SD.pd, OD.pd, Rz.cold, Rz.cool, warm, pdsOf, frz, frzAll, leave, argOf, onceB, newBor, isBor, ty_non, ty_bl, ty_int, ty_str, ty_lst, ty_scr, ty_tup, ty_dct, isa, String.reduceBEq, beq_self_eq_true, Bool.false_and, Bool.and_false, Bool.not_true, Bool.or_self, wYes, wCall, backS_0, backS_1, backS_2, backS_3, backS_4, backS_o0, backS_o1, backS_o2, backS_o3, dEq_int, dEq_str, dNeX_int, dNeX_str, List.length_cons, List.length_nil, List.cons_append, List.nil_append, List.replicate, Nat.reduceAdd, Nat.reduceSub, List.getElem?_cons_zero, List.getElem?_cons_succ, Option.bind_some, List.set_cons_zero, List.set_cons_succ, List.map_cons, List.map_nil, List.any_cons, List.any_nil, List.getD_cons_zero, List.getD_cons_succ, true_or, or_true, true_and, and_true, Bool.and_true, Bool.true_and, Bool.or_false, Bool.false_or, Bool.not_false, Bool.not_true, Bool.or_true, Bool.true_or, decide_true, decide_false, wFor, wRng1, wRng2, wLc, wSeqI, items, wEnumX, wCallO, wNever, noOwn, List.all_cons, List.all_nil, wipeS, Bool.and_self, decide_eq_true_eq, atI0a, atI0b, atI0c, atI1b, atI1c, atI2c, wZipX, seqP]
    by_cases hc : c = 0
    · simp only [decide_eq_true hc, z1, z3, bs, List.length_map, dTm, wSeq, wNext, wIfS, wSetF, wSet, into, wSetIx, wRet, wRetN, wDrop, wB, wBin, wUn, wCB, wCons, wNil, wVar, wC, wIf, wAnd, wOr, DL.wNot, wAndV, wOrV, wNotV, wTup, wLst, wSl, wNoPart, wPart, wChain, wUnp, wgTup, wgCons, wgNil, wName, wIsi, wListRg, wRg1, wRg2, wTupRg, wPuts, puts, Rz.sd, wConsH, wAppend, wExtend, ownL, dI, dI0, dIx, dInt, dAbs, dLen, dMax2, dMin2, dSum, dAll, dAny, dList, dTuple, dAdd, dNeg, dIsN, dNotN, PD.isN, dSl, look, looks, ok, Rz.pd, SD.pd, OD.pd, Rz.cold, Rz.cool, warm, pdsOf, frz, frzAll, leave, argOf, onceB, newBor, isBor, ty_non, ty_bl, ty_int, ty_str, ty_lst, ty_scr, ty_tup, ty_dct, isa, String.reduceBEq, beq_self_eq_true, Bool.false_and, Bool.and_false, Bool.not_true, Bool.or_self, wYes, wCall, backS_0, backS_1, backS_2, backS_3, backS_4, backS_o0, backS_o1, backS_o2, backS_o3, dEq_int, dEq_str, dNeX_int, dNeX_str, List.length_cons, List.length_nil, List.cons_append, List.nil_append, List.replicate, Nat.reduceAdd, Nat.reduceSub, List.getElem?_cons_zero, List.getElem?_cons_succ, Option.bind_some, List.set_cons_zero, List.set_cons_succ, List.map_cons, List.map_nil, List.any_cons, List.any_nil, List.getD_cons_zero, List.getD_cons_succ, true_or, or_true, true_and, and_true, Bool.and_true, Bool.true_and, Bool.or_false, Bool.false_or, Bool.not_false, Bool.not_true, Bool.or_true, Bool.true_or, decide_true, decide_false, wFor, wRng1, wRng2, wLc, wSeqI, items, wEnumX, wCallO, wNever, noOwn, List.all_cons, List.all_nil, wipeS, Bool.and_self, decide_eq_true_eq, atI0a, atI0b, atI0c, atI1b, atI1c, atI2c, wZipX, seqP]
      refine ⟨by simp, ⟨by omega, by omega⟩, by simp, ?_⟩
      refine ⟨.inr ⟨_, rfl⟩, of_ok ab hp (by omega) (Nat.zero_lt_succ _) (by simp) fun x s' hx hp => ?_⟩
      have hx : ∃ v : Int, x = .int v ∧ 2 ≤ v ∧ v ≤ 4 := by
        simp only [List.mem_cons, List.not_mem_nil, or_false] at hx
        rcases hx with rfl | rfl | rfl
        · exact ⟨_, rfl, by decide, by decide⟩
        · exact ⟨_, rfl, by decide, by decide⟩
        · exact ⟨_, rfl, by decide, by decide⟩
      obtain ⟨v, rfl, v0, v1⟩ := hx
      have e : ((ns.length : Int) - 1).toNat = ns.length - 1 := by omega
      have e2 : (List.replicate ((ns.length : Int) - 1).toNat [PD.int 3]).flatten ++ [PD.int v] = (List.replicate (ns.length - 1) (3 : Int) ++ [v]).map .int := by
        rw [e, rep_flat, List.map_append, List.map_replicate]
        rfl
      have e3 : (List.replicate ((ns.length : Int) - 1).toNat [PD.int 3]).flatten.length = ns.length - 1 := by rw [e, rep_flat, List.length_replicate]
      simp only [e2, e3, wSeq, wNext, wIfS, wSetF, wSet, into, wSetIx, wRet, wRetN, wDrop, wB, wBin, wUn, wCB, wCons, wNil, wVar, wC, wIf, wAnd, wOr, DL.wNot, wAndV, wOrV, wNotV, wTup, wLst, wSl, wNoPart, wPart, wChain, wUnp, wgTup, wgCons, wgNil, wName, wIsi, wListRg, wRg1, wRg2, wTupRg, wPuts, puts, Rz.sd, wConsH, wAppend, wExtend, ownL, dI, dI0, dIx, dInt, dAbs, dLen, dMax2, dMin2, dSum, dAll, dAny, dList, dTuple, dAdd, dNeg, dIsN, dNotN, PD.isN, dSl, look, looks, ok, Rz.pd, SD.pd, OD.pd, Rz.cold, Rz.cool, warm, pdsOf, frz, frzAll, leave, argOf, onceB, newBor, isBor, ty_non, ty_bl, ty_int, ty_str, ty_lst, ty_scr, ty_tup, ty_dct, isa, String.reduceBEq, beq_self_eq_true, Bool.false_and, Bool.and_false, Bool.not_true, Bool.or_self, wYes, wCall, backS_0, backS_1, backS_2, backS_3, backS_4, backS_o0, backS_o1, backS_o2, backS_o3, dEq_int, dEq_str, dNeX_int, dNeX_str, List.length_cons, List.length_nil, List.cons_append, List.nil_append, List.replicate, Nat.reduceAdd, Nat.reduceSub, List.getElem?_cons_zero, List.getElem?_cons_succ, Option.bind_some, List.set_cons_zero, List.set_cons_succ, List.map_cons, List.map_nil, List.any_cons, List.any_nil, List.getD_cons_zero, List.getD_cons_succ, true_or, or_true, true_and, and_true, Bool.and_true, Bool.true_and, Bool.or_false, Bool.false_or, Bool.not_false, Bool.not_true, Bool.or_true, Bool.true_or, decide_true, decide_false, wFor, wRng1, wRng2, wLc, wSeqI, items, wEnumX, wCallO, wNever, noOwn, List.all_cons, List.all_nil, wipeS, Bool.and_self, decide_eq_true_eq, atI0a, atI0b, atI0c, atI1b, atI1c, atI2c, wZipX, seqP]
      refine ⟨sz (by omega), hN _ ⟨s', List.replicate (ns.length - 1) 3 ++ [v], hp.mono (by omega), fun y hy => ?_, by rw [List.length_append, List.length_replicate, List.length_cons, List.length_nil]; omega, by rw [List.length_append, List.length_replicate, List.length_cons, List.length_nil]; omega, rfl⟩⟩
      rcases List.mem_append.mp hy with hy | hy
      · have := List.eq_of_mem_replicate hy
        subst this
        exact ⟨by decide, by decide⟩
      · rw [List.mem_singleton] at hy; subst hy; exact ⟨v0, v1⟩
    · simp only [decide_eq_false hc, wSeq, wNext, wIfS, wSetF, wSet, into, wSetIx, wRet, wRetN, wDrop, wB, wBin, wUn, wCB, wCons, wNil, wVar, wC, wIf, wAnd, wOr, DL.wNot, wAndV, wOrV, wNotV, wTup, wLst, wSl, wNoPart, wPart, wChain, wUnp, wgTup, wgCons, wgNil, wName, wIsi, wListRg, wRg1, wRg2, wTupRg, wPuts, puts, Rz.sd, wConsH, wAppend, wExtend, ownL, dI, dI0, dIx, dInt, dAbs, dLen, dMax2, dMin2, dSum, dAll, dAny, dList, dTuple, dAdd, dNeg, dIsN, dNotN, PD.isN, dSl, look, looks, ok, Rz.pd, SD.pd, OD.pd, Rz.cold, Rz.cool, warm, pdsOf, frz, frzAll, leave, argOf, onceB, newBor, isBor, ty_non, ty_bl, ty_int, ty_str, ty_lst, ty_scr, ty_tup, ty_dct, isa, String.reduceBEq, beq_self_eq_true, Bool.false_and, Bool.and_false, Bool.not_true, Bool.or_self, wYes, wCall, backS_0, backS_1, backS_2, backS_3, backS_4, backS_o0, backS_o1, backS_o2, backS_o3, dEq_int, dEq_str, dNeX_int, dNeX_str, List.length_cons, List.length_nil, List.cons_append, List.nil_append, List.replicate, Nat.reduceAdd, Nat.reduceSub, List.getElem?_cons_zero, List.getElem?_cons_succ, Option.bind_some, List.set_cons_zero, List.set_cons_succ, List.map_cons, List.map_nil, List.any_cons, List.any_nil, List.getD_cons_zero, List.getD_cons_succ, true_or, or_true, true_and, and_true, Bool.and_true, Bool.true_and, Bool.or_false, Bool.false_or, Bool.not_false, Bool.not_true, Bool.or_true, Bool.true_or, decide_true, decide_false, wFor, wRng1, wRng2, wLc, wSeqI, items, wEnumX, wCallO, wNever, noOwn, List.all_cons, List.all_nil, wipeS, Bool.and_self, decide_eq_true_eq, atI0a, atI0b, atI0c, atI1b, atI1c, atI2c, wZipX, seqP]
      exact hN _ ⟨_, ns, hp.mono (by omega), hb, h1, h2, rfl⟩
  obtain ⟨s, ns, hp, hb, h1, h2, rfl⟩ := hρ
  have last : forL (wName 7) (wIfS (wB (wBin dNeX (wCB dReprX (wCons (wCall 2 (F_figures_serve cl) noX (wCons (wVar 4) (wCons (wVar 7) wNil))) wNil)) (wCB dReprX (wCons (wCall 2 (F__law_does_figure_serve cl) noX (wCons (wVar 4) (wCons (wVar 7) wNil))) wNil)))) (wRet (wC (.bl false))) wNext) svP { nx := N, rt := rt, bk := bk, ct := N } (R19 s (.dat (.lst svP)) s2 (.dat d) (.dat (bs ns)) s5 s6 s7 s8 s9 s10) := by
    refine forL_upto (fun k ρ => ∃ s7, ρ = R19 s (.dat (.lst svP)) s2 (.dat d) (.dat (bs ns)) s5 s6 s7 s8 s9 s10) _ 0 _ ⟨_, rfl⟩ (fun k d' ρ N2 hj hI hN2 => ?_) (fun ρ hI => ?_)
    · obtain ⟨s7, rfl⟩ := hI
      obtain ⟨p, hp', rfl⟩ := List.mem_map.mp (List.mem_of_getElem? hj)
      obtain ⟨w, n⟩ := p
      have hs := svcs_sv _ hp'
      simp only [R19, wSeq, wNext, wIfS, wSetF, wSet, into, wSetIx, wRet, wRetN, wDrop, wB, wBin, wUn, wCB, wCons, wNil, wVar, wC, wIf, wAnd, wOr, DL.wNot, wAndV, wOrV, wNotV, wTup, wLst, wSl, wNoPart, wPart, wChain, wUnp, wgTup, wgCons, wgNil, wName, wIsi, wListRg, wRg1, wRg2, wTupRg, wPuts, puts, Rz.sd, wConsH, wAppend, wExtend, ownL, dI, dI0, dIx, dInt, dAbs, dLen, dMax2, dMin2, dSum, dAll, dAny, dList, dTuple, dAdd, dNeg, dIsN, dNotN, PD.isN, dSl, look, looks, ok, Rz.pd, SD.pd, OD.pd, Rz.cold, Rz.cool, warm, pdsOf, frz, frzAll, leave, argOf, onceB, newBor, isBor, ty_non, ty_bl, ty_int, ty_str, ty_lst, ty_scr, ty_tup, ty_dct, isa, String.reduceBEq, beq_self_eq_true, Bool.false_and, Bool.and_false, Bool.not_true, Bool.or_self, wYes, wCall, backS_0, backS_1, backS_2, backS_3, backS_4, backS_o0, backS_o1, backS_o2, backS_o3, dEq_int, dEq_str, dNeX_int, dNeX_str, List.length_cons, List.length_nil, List.cons_append, List.nil_append, List.replicate, Nat.reduceAdd, Nat.reduceSub, List.getElem?_cons_zero, List.getElem?_cons_succ, Option.bind_some, List.set_cons_zero, List.set_cons_succ, List.map_cons, List.map_nil, List.any_cons, List.any_nil, List.getD_cons_zero, List.getD_cons_succ, true_or, or_true, true_and, and_true, Bool.and_true, Bool.true_and, Bool.or_false, Bool.false_or, Bool.not_false, Bool.not_true, Bool.or_true, Bool.true_or, decide_true, decide_false, wFor, wRng1, wRng2, wLc, wSeqI, items, wEnumX, wCallO, wNever, noOwn, List.all_cons, List.all_nil, wipeS, Bool.and_self, decide_eq_true_eq, atI0a, atI0b, atI0c, atI1b, atI1c, atI2c, wZipX, seqP]
      refine figures_serve_ok hb h1 (by omega) hs ?_
      simp only [dRepr_bl, wSeq, wNext, wIfS, wSetF, wSet, into, wSetIx, wRet, wRetN, wDrop, wB, wBin, wUn, wCB, wCons, wNil, wVar, wC, wIf, wAnd, wOr, DL.wNot, wAndV, wOrV, wNotV, wTup, wLst, wSl, wNoPart, wPart, wChain, wUnp, wgTup, wgCons, wgNil, wName, wIsi, wListRg, wRg1, wRg2, wTupRg, wPuts, puts, Rz.sd, wConsH, wAppend, wExtend, ownL, dI, dI0, dIx, dInt, dAbs, dLen, dMax2, dMin2, dSum, dAll, dAny, dList, dTuple, dAdd, dNeg, dIsN, dNotN, PD.isN, dSl, look, looks, ok, Rz.pd, SD.pd, OD.pd, Rz.cold, Rz.cool, warm, pdsOf, frz, frzAll, leave, argOf, onceB, newBor, isBor, ty_non, ty_bl, ty_int, ty_str, ty_lst, ty_scr, ty_tup, ty_dct, isa, String.reduceBEq, beq_self_eq_true, Bool.false_and, Bool.and_false, Bool.not_true, Bool.or_self, wYes, wCall, backS_0, backS_1, backS_2, backS_3, backS_4, backS_o0, backS_o1, backS_o2, backS_o3, dEq_int, dEq_str, dNeX_int, dNeX_str, List.length_cons, List.length_nil, List.cons_append, List.nil_append, List.replicate, Nat.reduceAdd, Nat.reduceSub, List.getElem?_cons_zero, List.getElem?_cons_succ, Option.bind_some, List.set_cons_zero, List.set_cons_succ, List.map_cons, List.map_nil, List.any_cons, List.any_nil, List.getD_cons_zero, List.getD_cons_succ, true_or, or_true, true_and, and_true, Bool.and_true, Bool.true_and, Bool.or_false, Bool.false_or, Bool.not_false, Bool.not_true, Bool.or_true, Bool.true_or, decide_true, decide_false, wFor, wRng1, wRng2, wLc, wSeqI, items, wEnumX, wCallO, wNever, noOwn, List.all_cons, List.all_nil, wipeS, Bool.and_self, decide_eq_true_eq, atI0a, atI0b, atI0c, atI1b, atI1c, atI2c, wZipX, seqP]
      refine does_serve_ok hs (by omega) ?_
      simp only [dRepr_bl, dNeX_str (tf_ok _) (tf_ok _), ne_eq, not_true_eq_false, decide_false, wSeq, wNext, wIfS, wSetF, wSet, into, wSetIx, wRet, wRetN, wDrop, wB, wBin, wUn, wCB, wCons, wNil, wVar, wC, wIf, wAnd, wOr, DL.wNot, wAndV, wOrV, wNotV, wTup, wLst, wSl, wNoPart, wPart, wChain, wUnp, wgTup, wgCons, wgNil, wName, wIsi, wListRg, wRg1, wRg2, wTupRg, wPuts, puts, Rz.sd, wConsH, wAppend, wExtend, ownL, dI, dI0, dIx, dInt, dAbs, dLen, dMax2, dMin2, dSum, dAll, dAny, dList, dTuple, dAdd, dNeg, dIsN, dNotN, PD.isN, dSl, look, looks, ok, Rz.pd, SD.pd, OD.pd, Rz.cold, Rz.cool, warm, pdsOf, frz, frzAll, leave, argOf, onceB, newBor, isBor, ty_non, ty_bl, ty_int, ty_str, ty_lst, ty_scr, ty_tup, ty_dct, isa, String.reduceBEq, beq_self_eq_true, Bool.false_and, Bool.and_false, Bool.not_true, Bool.or_self, wYes, wCall, backS_0, backS_1, backS_2, backS_3, backS_4, backS_o0, backS_o1, backS_o2, backS_o3, dEq_int, dEq_str, dNeX_int, dNeX_str, List.length_cons, List.length_nil, List.cons_append, List.nil_append, List.replicate, Nat.reduceAdd, Nat.reduceSub, List.getElem?_cons_zero, List.getElem?_cons_succ, Option.bind_some, List.set_cons_zero, List.set_cons_succ, List.map_cons, List.map_nil, List.any_cons, List.any_nil, List.getD_cons_zero, List.getD_cons_succ, true_or, or_true, true_and, and_true, Bool.and_true, Bool.true_and, Bool.or_false, Bool.false_or, Bool.not_false, Bool.not_true, Bool.or_true, Bool.true_or, decide_true, decide_false, wFor, wRng1, wRng2, wLc, wSeqI, items, wEnumX, wCallO, wNever, noOwn, List.all_cons, List.all_nil, wipeS, Bool.and_self, decide_eq_true_eq, atI0a, atI0b, atI0c, atI1b, atI1c, atI2c, wZipX, seqP]
      exact hN2 _ ⟨_, rfl⟩
    · obtain ⟨s7, rfl⟩ := hI
      exact hN _ ⟨s, _, s2, _, _, _, _, _, _, _, _, hp.mono (by omega), .inr rfl, rfl⟩
  rcases hD with rfl | rfl
  · refine ⟨.inr ⟨_, rfl⟩, ?_⟩
    exact last
  · refine ⟨.inl rfl, ?_⟩
    exact last
theorem law_right_ok {cl : Nat → Addr} : RightOk (F__law_right cl) := by
  intro s Q hp h
  unfold F__law_right mkF
  obtain ⟨o, rfl⟩ := hp.own
  refine ⟨pinned1, ?_⟩
  unfold w__law_right
  show wSeq _ _ _ (R19 (.own o) .emp .emp .emp .emp .emp .emp .emp .emp .emp .emp)
  refine seq_to (ρ' := R19 (.own o) (.own (.lst [])) .emp .emp .emp .emp .emp .emp .emp .emp .emp) (fun N hN => ?_) ?_
  · simp only [R19, wSeq, wNext, wIfS, wSetF, wSet, into, wSetIx, wRet, wRetN, wDrop, wB, wBin, wUn, wCB, wCons, wNil, wVar, wC, wIf, wAnd, wOr, DL.wNot, wAndV, wOrV, wNotV, wTup, wLst, wSl, wNoPart, wPart, wChain, wUnp, wgTup, wgCons, wgNil, wName, wIsi, wListRg, wRg1, wRg2, wTupRg, wPuts, puts, Rz.sd, wConsH, wAppend, wExtend, ownL, dI, dI0, dIx, dInt, dAbs, dLen, dMax2, dMin2, dSum, dAll, dAny, dList, dTuple, dAdd, dNeg, dIsN, dNotN, PD.isN, dSl, look, looks, ok, Rz.pd, SD.pd, OD.pd, Rz.cold, Rz.cool, warm, pdsOf, frz, frzAll, leave, argOf, onceB, newBor, isBor, ty_non, ty_bl, ty_int, ty_str, ty_lst, ty_scr, ty_tup, ty_dct, isa, String.reduceBEq, beq_self_eq_true, Bool.false_and, Bool.and_false, Bool.not_true, Bool.or_self, wYes, wCall, backS_0, backS_1, backS_2, backS_3, backS_4, backS_o0, backS_o1, backS_o2, backS_o3, dEq_int, dEq_str, dNeX_int, dNeX_str, List.length_cons, List.length_nil, List.cons_append, List.nil_append, List.replicate, Nat.reduceAdd, Nat.reduceSub, List.getElem?_cons_zero, List.getElem?_cons_succ, Option.bind_some, List.set_cons_zero, List.set_cons_succ, List.map_cons, List.map_nil, List.any_cons, List.any_nil, List.getD_cons_zero, List.getD_cons_succ, true_or, or_true, true_and, and_true, Bool.and_true, Bool.true_and, Bool.or_false, Bool.false_or, Bool.not_false, Bool.not_true, Bool.or_true, Bool.true_or, decide_true, decide_false, wFor, wRng1, wRng2, wLc, wSeqI, items, wEnumX, wCallO, wNever, noOwn, List.all_cons, List.all_nil, wipeS, Bool.and_self, decide_eq_true_eq, atI0a, atI0b, atI0c, atI1b, atI1c, atI2c, wZipX, seqP]
    exact ⟨Nat.zero_le _, hN⟩
  refine seq_by (fun ρ' => ∃ s2, ρ' = R19 (.own o) (.own (.lst svP)) s2 .emp .emp .emp .emp .emp .emp .emp .emp) (fun N hN => ?_) (fun ρ hρ => ?_)
  · exact services_ok fun s2 => hN _ ⟨s2, rfl⟩
  obtain ⟨s2, rfl⟩ := hρ
  refine seq_by (G19 100) (fun N hN => ?_) (fun ρ hρ => ?_)
  · refine ⟨Or.inr ⟨_, rfl⟩, ⟨by decide, by decide⟩, ?_⟩
    have l2 : (rgP 0 (2 : Int).toNat).length = 2 := rfl
    refine forL_upto (fun k ρ => G19 (10 * k) ρ) _ 0 _ ⟨_, _, _, _, _, _, _, _, _, _, _, hp.mono (by omega), .inl rfl, rfl⟩ (fun k d ρ N2 hj hI hN2 => ?_) (fun ρ hI => ?_)
    · have hk := (List.getElem?_eq_some_iff.mp hj).1
      rw [l2] at hk
      refine lapC_ok ⟨by omega, by omega⟩ hI fun ρ' hG => hN2 ρ' ?_
      obtain ⟨s, D1, s2, s3, s4, s5, s6, s7, s8, s9, s10, hp, hD, rfl⟩ := hG
      exact ⟨s, D1, s2, s3, s4, s5, s6, s7, s8, s9, s10, hp.mono (by omega), hD, rfl⟩
    · obtain ⟨s, D1, s2, s3, s4, s5, s6, s7, s8, s9, s10, hp, hD, rfl⟩ := hI
      rw [l2] at hp
      exact hN _ ⟨s, D1, s2, s3, s4, s5, s6, s7, s8, s9, s10, hp.mono (by omega), hD, rfl⟩
  refine seq_by (G19 1000) (fun N hN => ?_) (fun ρ hρ => ?_)
  · obtain ⟨s, D1, s2, s3, s4, s5, s6, s7, s8, s9, s10, hp, hD, rfl⟩ := hρ
    refine ⟨Or.inr ⟨_, rfl⟩, ⟨by decide, by decide⟩, ?_⟩
    have l2 : (rgP 0 (6 : Int).toNat).length = 6 := rfl
    refine forL_upto (fun k ρ => G19 (100 + 50 * k) ρ) _ 0 _ ⟨_, _, _, _, _, _, _, _, _, _, _, hp.mono (by omega), hD, rfl⟩ (fun k d ρ N2 hj hI hN2 => ?_) (fun ρ hI => ?_)
    · have hk := (List.getElem?_eq_some_iff.mp hj).1
      rw [l2] at hk
      refine lapD_ok ⟨by omega, by omega⟩ hI fun ρ' hG => hN2 ρ' ?_
      obtain ⟨s, D1, s2, s3, s4, s5, s6, s7, s8, s9, s10, hp, hD, rfl⟩ := hG
      exact ⟨s, D1, s2, s3, s4, s5, s6, s7, s8, s9, s10, hp.mono (by omega), hD, rfl⟩
    · obtain ⟨s, D1, s2, s3, s4, s5, s6, s7, s8, s9, s10, hp, hD, rfl⟩ := hI
      rw [l2] at hp
      exact hN _ ⟨s, D1, s2, s3, s4, s5, s6, s7, s8, s9, s10, hp.mono (by omega), hD, rfl⟩
  · obtain ⟨s, D1, s2, s3, s4, s5, s6, s7, s8, s9, s10, hp, hD, rfl⟩ := hρ
    simp only [R19, wSeq, wNext, wIfS, wSetF, wSet, into, wSetIx, wRet, wRetN, wDrop, wB, wBin, wUn, wCB, wCons, wNil, wVar, wC, wIf, wAnd, wOr, DL.wNot, wAndV, wOrV, wNotV, wTup, wLst, wSl, wNoPart, wPart, wChain, wUnp, wgTup, wgCons, wgNil, wName, wIsi, wListRg, wRg1, wRg2, wTupRg, wPuts, puts, Rz.sd, wConsH, wAppend, wExtend, ownL, dI, dI0, dIx, dInt, dAbs, dLen, dMax2, dMin2, dSum, dAll, dAny, dList, dTuple, dAdd, dNeg, dIsN, dNotN, PD.isN, dSl, look, looks, ok, Rz.pd, SD.pd, OD.pd, Rz.cold, Rz.cool, warm, pdsOf, frz, frzAll, leave, argOf, onceB, newBor, isBor, ty_non, ty_bl, ty_int, ty_str, ty_lst, ty_scr, ty_tup, ty_dct, isa, String.reduceBEq, beq_self_eq_true, Bool.false_and, Bool.and_false, Bool.not_true, Bool.or_self, wYes, wCall, backS_0, backS_1, backS_2, backS_3, backS_4, backS_o0, backS_o1, backS_o2, backS_o3, dEq_int, dEq_str, dNeX_int, dNeX_str, List.length_cons, List.length_nil, List.cons_append, List.nil_append, List.replicate, Nat.reduceAdd, Nat.reduceSub, List.getElem?_cons_zero, List.getElem?_cons_succ, Option.bind_some, List.set_cons_zero, List.set_cons_succ, List.map_cons, List.map_nil, List.any_cons, List.any_nil, List.getD_cons_zero, List.getD_cons_succ, true_or, or_true, true_and, and_true, Bool.and_true, Bool.true_and, Bool.or_false, Bool.false_or, Bool.not_false, Bool.not_true, Bool.or_true, Bool.true_or, decide_true, decide_false, wFor, wRng1, wRng2, wLc, wSeqI, items, wEnumX, wCallO, wNever, noOwn, List.all_cons, List.all_nil, wipeS, Bool.and_self, decide_eq_true_eq, atI0a, atI0b, atI0c, atI1b, atI1c, atI2c, wZipX, seqP]
    exact h _
theorem pure_ok {cl : Nat → Addr} {ns : List Int} : F_law cl [.dat (.scr ns)] (fun r _ => r = .dat (.bl true)) noX := by
  show mkF (pin [0]) 2 (fun _ => wLawA 2 (FPot 1124 517 73151 8097 474) (F__law_right cl)) _ _ _
  exact lawA_ok pc ⟨by decide, by decide⟩ law_right_ok
end Lk

set_option Elab.async false
set_option linter.all false
set_option maxRecDepth 100000
set_option maxHeartbeats 4000000
namespace Lk
open PySem L2 DL
theorem all_mk {P : Program} {w : World} {K : PySem.W.Frag} {h : Heap} {mg : Str → Option Value} {t_GREATEST_BASE : _} {t_LEAST_BASE : _} {t_MOST_AT_SLOT : _} {t_MOST_BASES : _} {a_WORDS : Addr} {od_WORDS : Option Addr} {sl_WORDS : Array (Option Value)} {n_WORDS : Nat} {t0_WORDS : _} {t1_WORDS : _} {t2_WORDS : _} {f0 : Addr} {od0 an0 : Option Addr} {sl0 : Array (Option Value)} {oc0 kV0 dc0 pm0 cd0 ct0 : Value} {f1 : Addr} {od1 an1 : Option Addr} {sl1 : Array (Option Value)} {oc1 kV1 dc1 pm1 cd1 ct1 : Value} {f2 : Addr} {od2 an2 : Option Addr} {sl2 : Array (Option Value)} {oc2 kV2 dc2 pm2 cd2 ct2 : Value} {f3 : Addr} {od3 an3 : Option Addr} {sl3 : Array (Option Value)} {oc3 kV3 dc3 pm3 cd3 ct3 : Value} {f4 : Addr} {od4 an4 : Option Addr} {sl4 : Array (Option Value)} {oc4 kV4 dc4 pm4 cd4 ct4 : Value} {f5 : Addr} {od5 an5 : Option Addr} {sl5 : Array (Option Value)} {oc5 kV5 dc5 pm5 cd5 ct5 : Value} {f6 : Addr} {od6 an6 : Option Addr} {sl6 : Array (Option Value)} {oc6 kV6 dc6 pm6 cd6 ct6 : Value} {f7 : Addr} {od7 an7 : Option Addr} {sl7 : Array (Option Value)} {oc7 kV7 dc7 pm7 cd7 ct7 : Value} {f8 : Addr} {od8 an8 : Option Addr} {sl8 : Array (Option Value)} {oc8 kV8 dc8 pm8 cd8 ct8 : Value} {f9 : Addr} {od9 an9 : Option Addr} {sl9 : Array (Option Value)} {oc9 kV9 dc9 pm9 cd9 ct9 : Value} {f10 : Addr} {od10 an10 : Option Addr} {sl10 : Array (Option Value)} {oc10 kV10 dc10 pm10 cd10 ct10 : Value} {f11 : Addr} {od11 an11 : Option Addr} {sl11 : Array (Option Value)} {oc11 kV11 dc11 pm11 cd11 ct11 : Value} {f12 : Addr} {od12 an12 : Option Addr} {sl12 : Array (Option Value)} {oc12 kV12 dc12 pm12 cd12 ct12 : Value} {f13 : Addr} {od13 an13 : Option Addr} {sl13 : Array (Option Value)} {oc13 kV13 dc13 pm13 cd13 ct13 : Value} {f14 : Addr} {od14 an14 : Option Addr} {sl14 : Array (Option Value)} {oc14 kV14 dc14 pm14 cd14 ct14 : Value} {f15 : Addr} {od15 an15 : Option Addr} {sl15 : Array (Option Value)} {oc15 kV15 dc15 pm15 cd15 ct15 : Value} {f16 : Addr} {od16 an16 : Option Addr} {sl16 : Array (Option Value)} {oc16 kV16 dc16 pm16 cd16 ct16 : Value} {f17 : Addr} {od17 an17 : Option Addr} {sl17 : Array (Option Value)} {oc17 kV17 dc17 pm17 cd17 ct17 : Value} {f18 : Addr} {od18 an18 : Option Addr} {sl18 : Array (Option Value)} {oc18 kV18 dc18 pm18 cd18 ct18 : Value} {f19 : Addr} {od19 an19 : Option Addr} {sl19 : Array (Option Value)} {oc19 kV19 dc19 pm19 cd19 ct19 : Value} {f20 : Addr} {od20 an20 : Option Addr} {sl20 : Array (Option Value)} {oc20 kV20 dc20 pm20 cd20 ct20 : Value} {f21 : Addr} {od21 an21 : Option Addr} {sl21 : Array (Option Value)} {oc21 kV21 dc21 pm21 cd21 ct21 : Value} {f22 : Addr} {od22 an22 : Option Addr} {sl22 : Array (Option Value)} {oc22 kV22 dc22 pm22 cd22 ct22 : Value} (X : K.In h) (Gn : h.Ns mainGlobals mg)
    (b_abs : PySem.W.nsIn K mainGlobals "abs" = some none)
    (b_all : PySem.W.nsIn K mainGlobals "all" = some none)
    (b_any : PySem.W.nsIn K mainGlobals "any" = some none)
    (b_bool : PySem.W.nsIn K mainGlobals "bool" = some none)
    (b_enumerate : PySem.W.nsIn K mainGlobals "enumerate" = some none)
    (b_int : PySem.W.nsIn K mainGlobals "int" = some none)
    (b_isinstance : PySem.W.nsIn K mainGlobals "isinstance" = some none)
    (b_len : PySem.W.nsIn K mainGlobals "len" = some none)
    (b_list : PySem.W.nsIn K mainGlobals "list" = some none)
    (b_max : PySem.W.nsIn K mainGlobals "max" = some none)
    (b_min : PySem.W.nsIn K mainGlobals "min" = some none)
    (b_range : PySem.W.nsIn K mainGlobals "range" = some none)
    (b_repr : PySem.W.nsIn K mainGlobals "repr" = some none)
    (b_sorted : PySem.W.nsIn K mainGlobals "sorted" = some none)
    (b_str : PySem.W.nsIn K mainGlobals "str" = some none)
    (b_sum : PySem.W.nsIn K mainGlobals "sum" = some none)
    (b_tuple : PySem.W.nsIn K mainGlobals "tuple" = some none)
    (b_zip : PySem.W.nsIn K mainGlobals "zip" = some none)
    (v_GREATEST_BASE : PySem.W.nsIn K mainGlobals "GREATEST_BASE" = some (some (.int 4 t_GREATEST_BASE)))
    (v_LEAST_BASE : PySem.W.nsIn K mainGlobals "LEAST_BASE" = some (some (.int 2 t_LEAST_BASE)))
    (v_MOST_AT_SLOT : PySem.W.nsIn K mainGlobals "MOST_AT_SLOT" = some (some (.int 4 t_MOST_AT_SLOT)))
    (v_MOST_BASES : PySem.W.nsIn K mainGlobals "MOST_BASES" = some (some (.int 40 t_MOST_BASES)))
    (v_WORDS : PySem.W.nsIn K mainGlobals "WORDS" = some (some (.ref a_WORDS)))
    (l_WORDS : K.lookup a_WORDS = some ⟨.type "tuple", od_WORDS, .seq #[.str "queue" t0_WORDS, .str "order" t1_WORDS, .str "any" t2_WORDS] n_WORDS, sl_WORDS⟩)
    (a_law_take : PySem.W.nsIn K mainGlobals "_law_take" = some (some (.ref f0))) (l_law_take : K.lookup f0 = some ⟨oc0, od0, .func (PySem.W.fnOf "_law_take" "_law_take" (defArgs s__law_take) (defBody s__law_take) (defScope s__law_take) .none kV0 dc0 pm0 an0 cd0 ct0), sl0⟩) (c_law_take : PySem.W.codeIn K cd0 "_law_take" = true) (k_law_take : PySem.W.keepIn K (.ref f0) = true)
    (a_law_of : PySem.W.nsIn K mainGlobals "_law_of" = some (some (.ref f1))) (l_law_of : K.lookup f1 = some ⟨oc1, od1, .func (PySem.W.fnOf "_law_of" "_law_of" (defArgs s__law_of) (defBody s__law_of) (defScope s__law_of) .none kV1 dc1 pm1 an1 cd1 ct1), sl1⟩) (c_law_of : PySem.W.codeIn K cd1 "_law_of" = true) (k_law_of : PySem.W.keepIn K (.ref f1) = true)
    (a_law_bases : PySem.W.nsIn K mainGlobals "_law_bases" = some (some (.ref f2))) (l_law_bases : K.lookup f2 = some ⟨oc2, od2, .func (PySem.W.fnOf "_law_bases" "_law_bases" (defArgs s__law_bases) (defBody s__law_bases) (defScope s__law_bases) .none kV2 dc2 pm2 an2 cd2 ct2), sl2⟩) (c_law_bases : PySem.W.codeIn K cd2 "_law_bases" = true) (k_law_bases : PySem.W.keepIn K (.ref f2) = true)
    (a_law_weights : PySem.W.nsIn K mainGlobals "_law_weights" = some (some (.ref f3))) (l_law_weights : K.lookup f3 = some ⟨oc3, od3, .func (PySem.W.fnOf "_law_weights" "_law_weights" (defArgs s__law_weights) (defBody s__law_weights) (defScope s__law_weights) .none kV3 dc3 pm3 an3 cd3 ct3), sl3⟩) (c_law_weights : PySem.W.codeIn K cd3 "_law_weights" = true) (k_law_weights : PySem.W.keepIn K (.ref f3) = true)
    (a_law_figures_own : PySem.W.nsIn K mainGlobals "_law_figures_own" = some (some (.ref f4))) (l_law_figures_own : K.lookup f4 = some ⟨oc4, od4, .func (PySem.W.fnOf "_law_figures_own" "_law_figures_own" (defArgs s__law_figures_own) (defBody s__law_figures_own) (defScope s__law_figures_own) .none kV4 dc4 pm4 an4 cd4 ct4), sl4⟩) (c_law_figures_own : PySem.W.codeIn K cd4 "_law_figures_own" = true) (k_law_figures_own : PySem.W.keepIn K (.ref f4) = true)
    (a_law_figures : PySem.W.nsIn K mainGlobals "_law_figures" = some (some (.ref f5))) (l_law_figures : K.lookup f5 = some ⟨oc5, od5, .func (PySem.W.fnOf "_law_figures" "_law_figures" (defArgs s__law_figures) (defBody s__law_figures) (defScope s__law_figures) .none kV5 dc5 pm5 an5 cd5 ct5), sl5⟩) (c_law_figures : PySem.W.codeIn K cd5 "_law_figures" = true) (k_law_figures : PySem.W.keepIn K (.ref f5) = true)
    (a_law_aheads : PySem.W.nsIn K mainGlobals "_law_aheads" = some (some (.ref f6))) (l_law_aheads : K.lookup f6 = some ⟨oc6, od6, .func (PySem.W.fnOf "_law_aheads" "_law_aheads" (defArgs s__law_aheads) (defBody s__law_aheads) (defScope s__law_aheads) .none kV6 dc6 pm6 an6 cd6 ct6), sl6⟩) (c_law_aheads : PySem.W.codeIn K cd6 "_law_aheads" = true) (k_law_aheads : PySem.W.keepIn K (.ref f6) = true)
    (a_law_can_be : PySem.W.nsIn K mainGlobals "_law_can_be" = some (some (.ref f7))) (l_law_can_be : K.lookup f7 = some ⟨oc7, od7, .func (PySem.W.fnOf "_law_can_be" "_law_can_be" (defArgs s__law_can_be) (defBody s__law_can_be) (defScope s__law_can_be) .none kV7 dc7 pm7 an7 cd7 ct7), sl7⟩) (c_law_can_be : PySem.W.codeIn K cd7 "_law_can_be" = true) (k_law_can_be : PySem.W.keepIn K (.ref f7) = true)
    (a_law_clash_pairs : PySem.W.nsIn K mainGlobals "_law_clash_pairs" = some (some (.ref f8))) (l_law_clash_pairs : K.lookup f8 = some ⟨oc8, od8, .func (PySem.W.fnOf "_law_clash_pairs" "_law_clash_pairs" (defArgs s__law_clash_pairs) (defBody s__law_clash_pairs) (defScope s__law_clash_pairs) .none kV8 dc8 pm8 an8 cd8 ct8), sl8⟩) (c_law_clash_pairs : PySem.W.codeIn K cd8 "_law_clash_pairs" = true) (k_law_clash_pairs : PySem.W.keepIn K (.ref f8) = true)
    (a_law_does_figure_serve : PySem.W.nsIn K mainGlobals "_law_does_figure_serve" = some (some (.ref f9))) (l_law_does_figure_serve : K.lookup f9 = some ⟨oc9, od9, .func (PySem.W.fnOf "_law_does_figure_serve" "_law_does_figure_serve" (defArgs s__law_does_figure_serve) (defBody s__law_does_figure_serve) (defScope s__law_does_figure_serve) .none kV9 dc9 pm9 an9 cd9 ct9), sl9⟩) (c_law_does_figure_serve : PySem.W.codeIn K cd9 "_law_does_figure_serve" = true) (k_law_does_figure_serve : PySem.W.keepIn K (.ref f9) = true)
    (ais_number : PySem.W.nsIn K mainGlobals "is_number" = some (some (.ref f10))) (lis_number : K.lookup f10 = some ⟨oc10, od10, .func (PySem.W.fnOf "is_number" "is_number" (defArgs s_is_number) (defBody s_is_number) (defScope s_is_number) .none kV10 dc10 pm10 an10 cd10 ct10), sl10⟩) (cis_number : PySem.W.codeIn K cd10 "is_number" = true) (kis_number : PySem.W.keepIn K (.ref f10) = true)
    (ais_within : PySem.W.nsIn K mainGlobals "is_within" = some (some (.ref f11))) (lis_within : K.lookup f11 = some ⟨oc11, od11, .func (PySem.W.fnOf "is_within" "is_within" (defArgs s_is_within) (defBody s_is_within) (defScope s_is_within) .none kV11 dc11 pm11 an11 cd11 ct11), sl11⟩) (cis_within : PySem.W.codeIn K cd11 "is_within" = true) (kis_within : PySem.W.keepIn K (.ref f11) = true)
    (acheck_bases : PySem.W.nsIn K mainGlobals "check_bases" = some (some (.ref f12))) (lcheck_bases : K.lookup f12 = some ⟨oc12, od12, .func (PySem.W.fnOf "check_bases" "check_bases" (defArgs s_check_bases) (defBody s_check_bases) (defScope s_check_bases) .none kV12 dc12 pm12 an12 cd12 ct12), sl12⟩) (ccheck_bases : PySem.W.codeIn K cd12 "check_bases" = true) (kcheck_bases : PySem.W.keepIn K (.ref f12) = true)
    (ais_service : PySem.W.nsIn K mainGlobals "is_service" = some (some (.ref f13))) (lis_service : K.lookup f13 = some ⟨oc13, od13, .func (PySem.W.fnOf "is_service" "is_service" (defArgs s_is_service) (defBody s_is_service) (defScope s_is_service) .none kV13 dc13 pm13 an13 cd13 ct13), sl13⟩) (cis_service : PySem.W.codeIn K cd13 "is_service" = true) (kis_service : PySem.W.keepIn K (.ref f13) = true)
    (acheck_service : PySem.W.nsIn K mainGlobals "check_service" = some (some (.ref f14))) (lcheck_service : K.lookup f14 = some ⟨oc14, od14, .func (PySem.W.fnOf "check_service" "check_service" (defArgs s_check_service) (defBody s_check_service) (defScope s_check_service) .none kV14 dc14 pm14 an14 cd14 ct14), sl14⟩) (ccheck_service : PySem.W.codeIn K cd14 "check_service" = true) (kcheck_service : PySem.W.keepIn K (.ref f14) = true)
    (aweights_of : PySem.W.nsIn K mainGlobals "weights_of" = some (some (.ref f15))) (lweights_of : K.lookup f15 = some ⟨oc15, od15, .func (PySem.W.fnOf "weights_of" "weights_of" (defArgs s_weights_of) (defBody s_weights_of) (defScope s_weights_of) .none kV15 dc15 pm15 an15 cd15 ct15), sl15⟩) (cweights_of : PySem.W.codeIn K cd15 "weights_of" = true) (kweights_of : PySem.W.keepIn K (.ref f15) = true)
    (ais_possible : PySem.W.nsIn K mainGlobals "is_possible" = some (some (.ref f16))) (lis_possible : K.lookup f16 = some ⟨oc16, od16, .func (PySem.W.fnOf "is_possible" "is_possible" (defArgs s_is_possible) (defBody s_is_possible) (defScope s_is_possible) .none kV16 dc16 pm16 an16 cd16 ct16), sl16⟩) (cis_possible : PySem.W.codeIn K cd16 "is_possible" = true) (kis_possible : PySem.W.keepIn K (.ref f16) = true)
    (afigures_clash : PySem.W.nsIn K mainGlobals "figures_clash" = some (some (.ref f17))) (lfigures_clash : K.lookup f17 = some ⟨oc17, od17, .func (PySem.W.fnOf "figures_clash" "figures_clash" (defArgs s_figures_clash) (defBody s_figures_clash) (defScope s_figures_clash) .none kV17 dc17 pm17 an17 cd17 ct17), sl17⟩) (cfigures_clash : PySem.W.codeIn K cd17 "figures_clash" = true) (kfigures_clash : PySem.W.keepIn K (.ref f17) = true)
    (afigures_serve : PySem.W.nsIn K mainGlobals "figures_serve" = some (some (.ref f18))) (lfigures_serve : K.lookup f18 = some ⟨oc18, od18, .func (PySem.W.fnOf "figures_serve" "figures_serve" (defArgs s_figures_serve) (defBody s_figures_serve) (defScope s_figures_serve) .none kV18 dc18 pm18 an18 cd18 ct18), sl18⟩) (cfigures_serve : PySem.W.codeIn K cd18 "figures_serve" = true) (kfigures_serve : PySem.W.keepIn K (.ref f18) = true)
    (a_law_right : PySem.W.nsIn K mainGlobals "_law_right" = some (some (.ref f19))) (l_law_right : K.lookup f19 = some ⟨oc19, od19, .func (PySem.W.fnOf "_law_right" "_law_right" (defArgs s__law_right) (defBody s__law_right) (defScope s__law_right) .none kV19 dc19 pm19 an19 cd19 ct19), sl19⟩) (c_law_right : PySem.W.codeIn K cd19 "_law_right" = true) (k_law_right : PySem.W.keepIn K (.ref f19) = true)
    (a_law_pot : PySem.W.nsIn K mainGlobals "_law_pot" = some (some (.ref f20))) (l_law_pot : K.lookup f20 = some ⟨oc20, od20, .func (PySem.W.fnOf "_law_pot" "_law_pot" (defArgs s__law_pot) (defBody s__law_pot) (defScope s__law_pot) .none kV20 dc20 pm20 an20 cd20 ct20), sl20⟩) (c_law_pot : PySem.W.codeIn K cd20 "_law_pot" = true) (k_law_pot : PySem.W.keepIn K (.ref f20) = true)
    (a_law_cells : PySem.W.nsIn K mainGlobals "_law_cells" = some (some (.ref f21))) (l_law_cells : K.lookup f21 = some ⟨oc21, od21, .func (PySem.W.fnOf "_law_cells" "_law_cells" (defArgs s__law_cells) (defBody s__law_cells) (defScope s__law_cells) .none kV21 dc21 pm21 an21 cd21 ct21), sl21⟩) (c_law_cells : PySem.W.codeIn K cd21 "_law_cells" = true) (k_law_cells : PySem.W.keepIn K (.ref f21) = true)
    (alaw : PySem.W.nsIn K mainGlobals "law" = some (some (.ref f22))) (llaw : K.lookup f22 = some ⟨oc22, od22, .func (PySem.W.fnOf "law" "law" (defArgs s_law) (defBody s_law) (defScope s_law) .none kV22 dc22 pm22 an22 cd22 ct22), sl22⟩) (claw : PySem.W.codeIn K cd22 "law" = true) (klaw : PySem.W.keepIn K (.ref f22) = true) :
    ∀ base : Heap, K.In base → base.Ns mainGlobals mg → Cal P w K [] mg base 8 "law" ["script"] (F_law fun _ => 0) := by
  intro base hbase hbn
  have G : Gx K mg (fun _ => 0) 0 := { b_abs := PySem.W.mg_none_of X Gn b_abs, b_all := PySem.W.mg_none_of X Gn b_all, b_any := PySem.W.mg_none_of X Gn b_any, b_bool := PySem.W.mg_none_of X Gn b_bool, b_enumerate := PySem.W.mg_none_of X Gn b_enumerate, b_int := PySem.W.mg_none_of X Gn b_int, b_isinstance := PySem.W.mg_none_of X Gn b_isinstance, b_len := PySem.W.mg_none_of X Gn b_len, b_list := PySem.W.mg_none_of X Gn b_list, b_max := PySem.W.mg_none_of X Gn b_max, b_min := PySem.W.mg_none_of X Gn b_min, b_range := PySem.W.mg_none_of X Gn b_range, b_repr := PySem.W.mg_none_of X Gn b_repr, b_sorted := PySem.W.mg_none_of X Gn b_sorted, b_str := PySem.W.mg_none_of X Gn b_str, b_sum := PySem.W.mg_none_of X Gn b_sum, b_tuple := PySem.W.mg_none_of X Gn b_tuple, b_zip := PySem.W.mg_none_of X Gn b_zip, c_GREATEST_BASE := ⟨.int 4, _, PySem.W.mg_of X Gn v_GREATEST_BASE, ⟨_, rfl⟩, fun _ => .int _⟩, c_LEAST_BASE := ⟨.int 2, _, PySem.W.mg_of X Gn v_LEAST_BASE, ⟨_, rfl⟩, fun _ => .int _⟩, c_MOST_AT_SLOT := ⟨.int 4, _, PySem.W.mg_of X Gn v_MOST_AT_SLOT, ⟨_, rfl⟩, fun _ => .int _⟩, c_MOST_BASES := ⟨.int 40, _, PySem.W.mg_of X Gn v_MOST_BASES, ⟨_, rfl⟩, fun _ => .int _⟩, c_WORDS := ⟨.ref a_WORDS, _, PySem.W.mg_of X Gn v_WORDS, rfl, fun _ => .tup (xs := [.str "queue", .str "order", .str "any"]) (.inr ⟨_, _, _, l_WORDS, rfl, rfl, Nat.le_trans (Nat.le_of_eq rfl) (sz (n := 3) (by decide)), .cons ⟨_, rfl⟩ (.cons ⟨_, rfl⟩ (.cons ⟨_, rfl⟩ (.nil)))⟩) (.cons (.str _) (.cons (.str _) (.cons (.str _) (.nil))))⟩ }
  have EX : Exx P w K mg base 0 := ⟨trivial⟩
  have D_law_take : Dfn K mg "_law_take" s__law_take none := ⟨_, _, _, _, _, _, _, _, _, _, PySem.W.mg_of X Gn a_law_take, k_law_take, l_law_take, c_law_take, fun _ z => by cases z⟩
  have S_law_take := cal__law_take (P := P) (w := w) (Ts := []) (base := base) G EX D_law_take 
  have K_law_take := S_law_take.cal fun _ _ _ _ _ _ us hl => match us, hl with | [_, _], _ => rfl
  have D_law_of : Dfn K mg "_law_of" s__law_of none := ⟨_, _, _, _, _, _, _, _, _, _, PySem.W.mg_of X Gn a_law_of, k_law_of, l_law_of, c_law_of, fun _ z => by cases z⟩
  have S_law_of := cal__law_of (P := P) (w := w) (Ts := []) (base := base) G EX D_law_of K_law_take
  have K_law_of := S_law_of.cal fun _ _ _ _ _ _ us hl => match us, hl with | [_, _], _ => rfl
  have D_law_bases : Dfn K mg "_law_bases" s__law_bases none := ⟨_, _, _, _, _, _, _, _, _, _, PySem.W.mg_of X Gn a_law_bases, k_law_bases, l_law_bases, c_law_bases, fun _ z => by cases z⟩
  have S_law_bases := cal__law_bases (P := P) (w := w) (Ts := []) (base := base) G EX D_law_bases K_law_of K_law_take
  have K_law_bases := S_law_bases.cal fun _ _ _ _ _ _ us hl => match us, hl with | [_, _, _], _ => rfl
  have D_law_weights : Dfn K mg "_law_weights" s__law_weights none := ⟨_, _, _, _, _, _, _, _, _, _, PySem.W.mg_of X Gn a_law_weights, k_law_weights, l_law_weights, c_law_weights, fun _ z => by cases z⟩
  have S_law_weights := cal__law_weights (P := P) (w := w) (Ts := []) (base := base) G EX D_law_weights 
  have K_law_weights := S_law_weights.cal fun _ _ _ _ _ _ us hl => match us, hl with | [_], _ => rfl
  have D_law_figures_own : Dfn K mg "_law_figures_own" s__law_figures_own none := ⟨_, _, _, _, _, _, _, _, _, _, PySem.W.mg_of X Gn a_law_figures_own, k_law_figures_own, l_law_figures_own, c_law_figures_own, fun _ z => by cases z⟩
  have S_law_figures_own := cal__law_figures_own (P := P) (w := w) (Ts := []) (base := base) G EX D_law_figures_own K_law_weights
  have K_law_figures_own := S_law_figures_own.cal fun _ _ _ _ _ _ us hl => match us, hl with | [_], _ => rfl
  have D_law_figures : Dfn K mg "_law_figures" s__law_figures none := ⟨_, _, _, _, _, _, _, _, _, _, PySem.W.mg_of X Gn a_law_figures, k_law_figures, l_law_figures, c_law_figures, fun _ z => by cases z⟩
  have S_law_figures := cal__law_figures (P := P) (w := w) (Ts := []) (base := base) G EX D_law_figures K_law_weights
  have K_law_figures := S_law_figures.cal fun _ _ _ _ _ _ us hl => match us, hl with | [_, _], _ => rfl
  have D_law_aheads : Dfn K mg "_law_aheads" s__law_aheads none := ⟨_, _, _, _, _, _, _, _, _, _, PySem.W.mg_of X Gn a_law_aheads, k_law_aheads, l_law_aheads, c_law_aheads, fun _ z => by cases z⟩
  have S_law_aheads := cal__law_aheads (P := P) (w := w) (Ts := []) (base := base) G EX D_law_aheads 
  have K_law_aheads := S_law_aheads.cal fun _ _ _ _ _ _ us hl => match us, hl with | [_, _], _ => rfl
  have D_law_can_be : Dfn K mg "_law_can_be" s__law_can_be none := ⟨_, _, _, _, _, _, _, _, _, _, PySem.W.mg_of X Gn a_law_can_be, k_law_can_be, l_law_can_be, c_law_can_be, fun _ z => by cases z⟩
  have S_law_can_be := cal__law_can_be (P := P) (w := w) (Ts := []) (base := base) G EX D_law_can_be 
  have K_law_can_be := S_law_can_be.cal fun _ _ _ _ _ _ us hl => match us, hl with | [_, _, _], _ => rfl
  have D_law_clash_pairs : Dfn K mg "_law_clash_pairs" s__law_clash_pairs none := ⟨_, _, _, _, _, _, _, _, _, _, PySem.W.mg_of X Gn a_law_clash_pairs, k_law_clash_pairs, l_law_clash_pairs, c_law_clash_pairs, fun _ z => by cases z⟩
  have S_law_clash_pairs := cal__law_clash_pairs (P := P) (w := w) (Ts := []) (base := base) G EX D_law_clash_pairs K_law_aheads K_law_can_be
  have K_law_clash_pairs := S_law_clash_pairs.cal fun _ _ _ _ _ _ us hl => match us, hl with | [_, _, _], _ => rfl
  have D_law_does_figure_serve : Dfn K mg "_law_does_figure_serve" s__law_does_figure_serve none := ⟨_, _, _, _, _, _, _, _, _, _, PySem.W.mg_of X Gn a_law_does_figure_serve, k_law_does_figure_serve, l_law_does_figure_serve, c_law_does_figure_serve, fun _ z => by cases z⟩
  have S_law_does_figure_serve := cal__law_does_figure_serve (P := P) (w := w) (Ts := []) (base := base) G EX D_law_does_figure_serve 
  have K_law_does_figure_serve := S_law_does_figure_serve.cal fun _ _ _ _ _ _ us hl => match us, hl with | [_, _], _ => rfl
  have Dis_number : Dfn K mg "is_number" s_is_number none := ⟨_, _, _, _, _, _, _, _, _, _, PySem.W.mg_of X Gn ais_number, kis_number, lis_number, cis_number, fun _ z => by cases z⟩
  have Sis_number := cal_is_number (P := P) (w := w) (Ts := []) (base := base) G EX Dis_number 
  have Kis_number := Sis_number.cal fun _ _ _ _ _ _ us hl => match us, hl with | [_], _ => rfl
  have Dis_within : Dfn K mg "is_within" s_is_within none := ⟨_, _, _, _, _, _, _, _, _, _, PySem.W.mg_of X Gn ais_within, kis_within, lis_within, cis_within, fun _ z => by cases z⟩
  have Sis_within := cal_is_within (P := P) (w := w) (Ts := []) (base := base) G EX Dis_within Kis_number
  have Kis_within := Sis_within.cal fun _ _ _ _ _ _ us hl => match us, hl with | [_, _, _], _ => rfl
  have Dcheck_bases : Dfn K mg "check_bases" s_check_bases none := ⟨_, _, _, _, _, _, _, _, _, _, PySem.W.mg_of X Gn acheck_bases, kcheck_bases, lcheck_bases, ccheck_bases, fun _ z => by cases z⟩
  have Scheck_bases := cal_check_bases (P := P) (w := w) (Ts := []) (base := base) G EX Dcheck_bases Kis_within
  have Kcheck_bases := Scheck_bases.cal fun _ _ _ _ _ _ us hl => match us, hl with | [_], _ => rfl
  have Dis_service : Dfn K mg "is_service" s_is_service none := ⟨_, _, _, _, _, _, _, _, _, _, PySem.W.mg_of X Gn ais_service, kis_service, lis_service, cis_service, fun _ z => by cases z⟩
  have Sis_service := cal_is_service (P := P) (w := w) (Ts := []) (base := base) G EX Dis_service Kis_within
  have Kis_service := Sis_service.cal fun _ _ _ _ _ _ us hl => match us, hl with | [_], _ => rfl
  have Dcheck_service : Dfn K mg "check_service" s_check_service none := ⟨_, _, _, _, _, _, _, _, _, _, PySem.W.mg_of X Gn acheck_service, kcheck_service, lcheck_service, ccheck_service, fun _ z => by cases z⟩
  have Scheck_service := cal_check_service (P := P) (w := w) (Ts := []) (base := base) G EX Dcheck_service Kis_service
  have Kcheck_service := Scheck_service.cal fun _ _ _ _ _ _ us hl => match us, hl with | [_], _ => rfl
  have Dweights_of : Dfn K mg "weights_of" s_weights_of none := ⟨_, _, _, _, _, _, _, _, _, _, PySem.W.mg_of X Gn aweights_of, kweights_of, lweights_of, cweights_of, fun _ z => by cases z⟩
  have Sweights_of := cal_weights_of (P := P) (w := w) (Ts := []) (base := base) G EX Dweights_of 
  have Kweights_of := Sweights_of.cal fun _ _ _ _ _ _ us hl => match us, hl with | [_], _ => rfl
  have Dis_possible : Dfn K mg "is_possible" s_is_possible none := ⟨_, _, _, _, _, _, _, _, _, _, PySem.W.mg_of X Gn ais_possible, kis_possible, lis_possible, cis_possible, fun _ z => by cases z⟩
  have Sis_possible := cal_is_possible (P := P) (w := w) (Ts := []) (base := base) G EX Dis_possible 
  have Kis_possible := Sis_possible.cal fun _ _ _ _ _ _ us hl => match us, hl with | [_, _], _ => rfl
  have Dfigures_clash : Dfn K mg "figures_clash" s_figures_clash none := ⟨_, _, _, _, _, _, _, _, _, _, PySem.W.mg_of X Gn afigures_clash, kfigures_clash, lfigures_clash, cfigures_clash, fun _ z => by cases z⟩
  have Sfigures_clash := cal_figures_clash (P := P) (w := w) (Ts := []) (base := base) G EX Dfigures_clash Kcheck_bases Kcheck_service Kis_possible Kweights_of
  have Kfigures_clash := Sfigures_clash.cal fun _ _ _ _ _ _ us hl => match us, hl with | [_, _], _ => rfl
  have Dfigures_serve : Dfn K mg "figures_serve" s_figures_serve none := ⟨_, _, _, _, _, _, _, _, _, _, PySem.W.mg_of X Gn afigures_serve, kfigures_serve, lfigures_serve, cfigures_serve, fun _ z => by cases z⟩
  have Sfigures_serve := cal_figures_serve (P := P) (w := w) (Ts := []) (base := base) G EX Dfigures_serve Kfigures_clash
  have Kfigures_serve := Sfigures_serve.cal fun _ _ _ _ _ _ us hl => match us, hl with | [_, _], _ => rfl
  have Kfigures_serve_K10 := Sfigures_serve.kw (ks := ["service", "bases"]) (pk := [1, 0]) fun _ _ _ _ _ _ us hl => match us, hl with | [_, _], _ => rfl
  have D_law_right : Dfn K mg "_law_right" s__law_right none := ⟨_, _, _, _, _, _, _, _, _, _, PySem.W.mg_of X Gn a_law_right, k_law_right, l_law_right, c_law_right, fun _ z => by cases z⟩
  have S_law_right := cal__law_right (P := P) (w := w) (Ts := []) (base := base) G EX D_law_right K_law_bases K_law_can_be K_law_clash_pairs K_law_does_figure_serve K_law_figures K_law_figures_own K_law_of K_law_take K_law_weights Kfigures_serve Kfigures_serve_K10
  have K_law_right := S_law_right.cal fun _ _ _ _ _ _ us hl => match us, hl with | [_], _ => rfl
  have D_law_pot : Dfn K mg "_law_pot" s__law_pot none := ⟨_, _, _, _, _, _, _, _, _, _, PySem.W.mg_of X Gn a_law_pot, k_law_pot, l_law_pot, c_law_pot, fun _ z => by cases z⟩
  have S_law_pot := cal__law_pot (P := P) (w := w) (Ts := []) (base := base) G EX D_law_pot 
  have K_law_pot := S_law_pot.cal fun _ _ _ _ _ _ us hl => match us, hl with | [_, _], _ => rfl
  have D_law_cells : Dfn K mg "_law_cells" s__law_cells none := ⟨_, _, _, _, _, _, _, _, _, _, PySem.W.mg_of X Gn a_law_cells, k_law_cells, l_law_cells, c_law_cells, fun _ z => by cases z⟩
  have S_law_cells := cal__law_cells (P := P) (w := w) (Ts := []) (base := base) G EX D_law_cells 
  have K_law_cells := S_law_cells.cal fun _ _ _ _ _ _ us hl => match us, hl with | [_, _], _ => rfl
  have Dlaw : Dfn K mg "law" s_law none := ⟨_, _, _, _, _, _, _, _, _, _, PySem.W.mg_of X Gn alaw, klaw, llaw, claw, fun _ z => by cases z⟩
  have Slaw := cal_law (P := P) (w := w) (Ts := []) (base := base) G EX Dlaw K_law_cells K_law_pot K_law_right
  have Klaw := Slaw.cal fun _ _ _ _ _ _ us hl => match us, hl with | [_], _ => rfl
  exact Klaw
theorem law_end {q : Program} {XP : (Str → Option Value) → Heap → Prop} {YP : World → Heap → Prop} {d : DefRec} {K : Params → PySem.W.Frag} (hd : d.params.defaults = []) (hY : ∀ (w : World) (h : Heap), YP w h → (K w.params).In h)
    (hf : ∀ (w : World) (mg : Str → Option Value) (h : Heap), (K w.params).In h → h.Ns mainGlobals mg → ∀ base : Heap, (K w.params).In base → base.Ns mainGlobals mg → Cal PySem.Challenge.rw_queueloops_k25_whole_which_services_figu.prog w (K w.params) [] mg base 8 d.name ["script"] (F_law fun _ => 0)) :
    PySem.W.WalkO q [] XP YP PySem.Challenge.rw_queueloops_k25_whole_which_services_figu.row.toRowW d [] (fun f vs => PySem.call f vs) := by
  have e1 : PySem.Challenge.rw_queueloops_k25_whole_which_services_figu.most = some 63 := by kernel_rfl
  have e2 : 63 ≤ sizeLine := by rw [sizeLine_eq]; decide
  exact DL.law_walks (K := K) (F := fun _ => F_law fun _ => 0) (ls := []) e1 e2 hd ⟨by decide, by decide, by decide⟩ hY .nil (fun _ h => nomatch h) (fun _ _ h => nomatch h) (fun w mg h a b base c d _ => hf w mg h a b base c d) (fun w ns _ _ => pure_ok)
end Lk
open PySem PySem.W PyProof.Rows
set_option Elab.async false
set_option maxRecDepth 100000 in
set_option maxHeartbeats 0 in
theorem PySem.Challenge.cw_queueloops_k25_whole_which_services_figu_holds : PySem.Challenge.rw_queueloops_k25_whole_which_services_figu.Holds := by
  w_on; o_law; k_head; (case hw => w_witness2)
  k_fill
  refine' Lk.law_end rfl (fun w h Y => PySem.W.kIn_of Y) ?F
  case F =>
    intro w mg h KX G
    refine' Lk.all_mk KX G ?x0 ?x1 ?x2 ?x3 ?x4 ?x5 ?x6 ?x7 ?x8 ?x9 ?x10 ?x11 ?x12 ?x13 ?x14 ?x15 ?x16 ?x17 ?x18 ?x19 ?x20 ?x21 ?x22 ?x23 ?x24 ?x25 ?x26 ?x27 ?x28 ?x29 ?x30 ?x31 ?x32 ?x33 ?x34 ?x35 ?x36 ?x37 ?x38 ?x39 ?x40 ?x41 ?x42 ?x43 ?x44 ?x45 ?x46 ?x47 ?x48 ?x49 ?x50 ?x51 ?x52 ?x53 ?x54 ?x55 ?x56 ?x57 ?x58 ?x59 ?x60 ?x61 ?x62 ?x63 ?x64 ?x65 ?x66 ?x67 ?x68 ?x69 ?x70 ?x71 ?x72 ?x73 ?x74 ?x75 ?x76 ?x77 ?x78 ?x79 ?x80 ?x81 ?x82 ?x83 ?x84 ?x85 ?x86 ?x87 ?x88 ?x89 ?x90 ?x91 ?x92 ?x93 ?x94 ?x95 ?x96 ?x97 ?x98 ?x99 ?x100 ?x101 ?x102 ?x103 ?x104 ?x105 ?x106 ?x107 ?x108 ?x109 ?x110 ?x111 ?x112 ?x113 ?x114 ?x115
    (case x0 => k_is)
    (case x1 => k_is)
    (case x2 => k_is)
    (case x3 => k_is)
    (case x4 => k_is)
    (case x5 => k_is)
    (case x6 => k_is)
    (case x7 => k_is)
    (case x8 => k_is)
    (case x9 => k_is)
    (case x10 => k_is)
    (case x11 => k_is)
    (case x12 => k_is)
    (case x13 => k_is)
    (case x14 => k_is)
    (case x15 => k_is)
    (case x16 => k_is)
    (case x17 => k_is)
    (case x18 => k_is)
    (case x19 => k_is)
    (case x20 => k_is)
    (case x21 => k_is)
    (case x22 => k_is)
    (case x23 => k_is)
    (case x24 => k_is)
    (case x25 => k_is)
    (case x26 => k_is)
    (case x27 => k_is)
    (case x28 => k_is)
    (case x29 => k_is)
    (case x30 => k_is)
    (case x31 => k_is)
    (case x32 => k_is)
    (case x33 => k_is)
    (case x34 => k_is)
    (case x35 => k_is)
    (case x36 => k_is)
    (case x37 => k_is)
    (case x38 => k_is)
    (case x39 => k_is)
    (case x40 => k_is)
    (case x41 => k_is)
    (case x42 => k_is)
    (case x43 => k_is)
    (case x44 => k_is)
    (case x45 => k_is)
    (case x46 => k_is)
    (case x47 => k_is)
    (case x48 => k_is)
    (case x49 => k_is)
    (case x50 => k_is)
    (case x51 => k_is)
    (case x52 => k_is)
    (case x53 => k_is)
    (case x54 => k_is)
    (case x55 => k_is)
    (case x56 => k_is)
    (case x57 => k_is)
    (case x58 => k_is)
    (case x59 => k_is)
    (case x60 => k_is)
    (case x61 => k_is)
    (case x62 => k_is)
    (case x63 => k_is)
    (case x64 => k_is)
    (case x65 => k_is)
    (case x66 => k_is)
    (case x67 => k_is)
    (case x68 => k_is)
    (case x69 => k_is)
    (case x70 => k_is)
    (case x71 => k_is)
    (case x72 => k_is)
    (case x73 => k_is)
    (case x74 => k_is)
    (case x75 => k_is)
    (case x76 => k_is)
    (case x77 => k_is)
    (case x78 => k_is)
    (case x79 => k_is)
    (case x80 => k_is)
    (case x81 => k_is)
    (case x82 => k_is)
    (case x83 => k_is)
    (case x84 => k_is)
    (case x85 => k_is)
    (case x86 => k_is)
    (case x87 => k_is)
    (case x88 => k_is)
    (case x89 => k_is)
    (case x90 => k_is)
    (case x91 => k_is)
    (case x92 => k_is)
    (case x93 => k_is)
    (case x94 => k_is)
    (case x95 => k_is)
    (case x96 => k_is)
    (case x97 => k_is)
    (case x98 => k_is)
    (case x99 => k_is)
    (case x100 => k_is)
    (case x101 => k_is)
    (case x102 => k_is)
    (case x103 => k_is)
    (case x104 => k_is)
    (case x105 => k_is)
    (case x106 => k_is)
    (case x107 => k_is)
    (case x108 => k_is)
    (case x109 => k_is)
    (case x110 => k_is)
    (case x111 => k_is)
    (case x112 => k_is)
    (case x113 => k_is)
    (case x114 => k_is)
    (case x115 => k_is)

