package swipe

import "swipe/api"

// account: what is kept of a card. Only the worker whose share the card belongs to touches it while there is work.
type account struct {
	worker   int
	left     int
	verdicts map[visit]verdict
}

// visit tells one request of a card from another.
type visit struct {
	trace int
	place string
}

// verdict: what the answer to a request has that its visit does not tell.
type verdict struct {
	amount int
	code   string
}

// spend tells the verdict on a request, and what was spent by it (P9).
func (a *account) spend(m api.Message) (verdict, int) {
	at := visit{trace: m.Trace, place: m.Place}
	if before, ok := a.verdicts[at]; ok {
		return before, 0
	}
	v := verdict{amount: m.Amount, code: a.judge(m.Amount)}
	a.verdicts[at] = v
	if v.code != codeOK {
		return v, 0
	}
	a.left -= m.Amount
	return v, m.Amount
}

func (a *account) judge(amount int) string {
	if amount == 0 {
		return codeAmount
	}
	if amount > a.left {
		return codeTooMuch
	}
	return codeOK
}
