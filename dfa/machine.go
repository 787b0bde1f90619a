package dfa

// machine is what one pattern can come to: its states are sets of places at which one stands at
// once, numbered as they are come to.
type machine struct {
	sets []places
	row  func(state int32) []int32 // by class: the state to which it leads
}

// dead is the state without any place: no text leads on from it.
const dead = 0

func (k *machine) wins(state int32) bool { return k.sets[state].has(end) }

// Steps that the making of a state, and of one step from it, take.
const (
	stateCost = 256
	stepCost  = 12
)

// machineOf is a machine, and the state in which it starts. It works out a state's row once; if the meter is out, not all of it.
func machineOf(n net, reads []places, m *meter) (*machine, int32) {
	k := &machine{}
	numbers := map[places]int32{}
	rows := [][]int32{}
	numberOf := func(set places) int32 {
		at, ok := numbers[set]
		if !ok {
			at = int32(len(k.sets))
			numbers[set] = at
			k.sets = append(k.sets, set)
			rows = append(rows, nil)
			m.spend(stateCost)
		}
		return at
	}
	k.row = func(state int32) []int32 {
		if rows[state] != nil {
			return rows[state]
		}
		row := make([]int32, len(reads))
		for class, readers := range reads {
			if m.out() {
				break
			}
			var next places
			m.spend(stepCost)
			for at := range k.sets[state].both(readers).each() {
				next = next.with(n.next[at])
				m.spend(1)
			}
			row[class] = numberOf(next)
		}
		rows[state] = row
		return row
	}
	numberOf(places{})
	return k, numberOf(n.start)
}
