/- The entries of a record, as mathematics (layer 6). No dump is read here. -/
import Derived.Test.YtleomgmhkoglmaaTxM
import Derived.Test.YtleomgmhkoglmaaDescM
namespace Go.Proofs.Ytleomgmhkoglmaa
def clOf (F : Int → Option Cl) (x : Int) : Cl := (F x).getD ⟨0, 0, 0⟩
def En.val (e : En) : Value := .agg #[.int .i64 e.cell, .int .u32 e.ver, .int .u64 e.old, .int .u64 e.new, .bool e.wr]
def ent (W : Int → Option Int) (i : Int) (c : Cl) : En := match W i with
  | some v => ⟨i, c.ver, c.v, v, v != c.v⟩
  | none => ⟨i, c.ver, c.v, c.v, false⟩
/-- the entries that keys make -/
def ents (R : Int → Option Cl) (W : Int → Option Int) (ks : List Int) : List En := ks.map fun k => ent W k (clOf R k)
end Go.Proofs.Ytleomgmhkoglmaa
