package incl

// A unit of fuel is worth a unit of package text's, or some steps here. Fuel above maxFuel is worth no more
// than maxFuel, which is some seconds: a call whose ways are without number must end in a time that can be
// waited for.
const (
	maxFuel = 1 << 22
	steps   = 4
)

// spent is the panic of a meter from which more is asked for than is left.
type spent struct{}

// meter is the steps that are left.
type meter struct{ left int }

func newMeter(fuel int) *meter { return &meter{left: steps * max(0, min(fuel, maxFuel))} }

func (m *meter) pay(steps int) {
	if steps > m.left {
		panic(spent{})
	}
	m.left -= steps
}

func (m *meter) payUnits(fuel int) { m.pay(fuel * steps) }

// effort is what is tried: how much fuel one question for texts is worth, and whether the values
// that are found must have as few nodes as any. Little is tried first, since it mostly is enough.
type effort struct {
	words  int
	fewest bool
}

const (
	firstWords  = 1 << 10
	wordsGrowth = 1 << 5
	lastWords   = 1 << 20
)

func firstEffort() effort { return effort{words: firstWords} }

// more is whether more effort than e may come to more, and makes e that effort.
func (w *work) more(e *effort) bool {
	switch {
	case w.vague && e.words < lastWords:
		e.words *= wordsGrowth
	case w.refused && !e.fewest:
		e.fewest = true
	default:
		return false
	}
	return true
}
