package text

// A unit of fuel is one of dfa's. Fuel above maxFuel is worth no more than maxFuel, which is some
// seconds: a call whose branches are without number must end in a time that can be waited for.
const maxFuel = 1 << 22

// What dfa is given for one question: at first, how many times as much the next time, and the last
// time, where sets of none are still to be asked and where none is.
const (
	firstFuel  = 1 << 6
	fuelGrowth = 4
	midFuel    = 1 << 16
	lastFuel   = 1 << 20
)

// A unit of fuel is worth a match of so many bytes by patterns of Size 1.
const matchedAtOnce = 16

// meter is the units of fuel that are left.
type meter struct{ left int }

func newMeter(fuel int) meter { return meter{left: max(0, min(fuel, maxFuel))} }

func (m *meter) out() bool { return m.left == 0 }

func (m *meter) spend(units int) { m.take(units) }

// take is as much of what is asked for as is left.
func (m *meter) take(units int) int {
	units = min(units, m.left)
	m.left -= units
	return units
}
