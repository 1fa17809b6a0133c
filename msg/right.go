package msg

import "kiosk/api"

const (
	maxNumber = 1 << 40 // of an Index, a Term and a Commit
	maxData   = 4000000 // bytes
)

// Right tells whether a message may be.
func Right(m api.Msg) bool {
	return api.MVote <= m.Kind && m.Kind <= api.MForward &&
		every(isNode, m.From, m.To) &&
		every(isNumber, m.Term, m.Index, m.LogTerm, m.Commit) &&
		len(m.Entries) <= api.MaxBatch && every(rightEntry, m.Entries...) &&
		rightBase(m.Base) && rightData(m.Data)
}

func rightEntry(e api.Entry) bool {
	return every(isNumber, e.Index, e.Term) &&
		api.Noop <= e.Kind && e.Kind <= api.Config && rightData(e.Data)
}

// rightBase has no need to count the voters: numbers that rise from 1 to MaxNode are never too many.
func rightBase(b api.Base) bool {
	return every(isNumber, b.Index, b.Term) &&
		every(isNode, b.Voters...) && rising(b.Voters) && rightData(b.Data)
}

func isNode(n int) bool { return 1 <= n && n <= api.MaxNode }

func isNumber(n int) bool { return 0 <= n && n <= maxNumber }

func rightData(s string) bool { return len(s) <= maxData }

func rising(l []int) bool {
	for i := 1; i < len(l); i++ {
		if l[i] <= l[i-1] {
			return false
		}
	}
	return true
}

func every[T any](fits func(T) bool, l ...T) bool {
	for _, x := range l {
		if !fits(x) {
			return false
		}
	}
	return true
}
