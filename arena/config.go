package arena

import "midden/api"

// bound: a number of a configuration, and between which it may be.
type bound struct {
	is, least, most int
}

// Valid tells whether a configuration may be.
func Valid(c api.Config) bool {
	for _, b := range bounds(c) {
		if b.is < b.least || b.is > b.most {
			return false
		}
	}
	return true
}

func bounds(c api.Config) [14]bound {
	return [...]bound{
		{c.Eden, api.MinSpace, api.MaxSpace},
		{c.Survivor, api.MinSpace, api.MaxSpace},
		{c.Tenured, api.MinSpace, api.MaxSpace},
		{c.Large, headWords, api.MaxSpace},
		{c.Floor, 0, api.MaxSpace},
		{c.Num, c.Den, api.MaxRatio},
		{c.Den, 1, c.Num},
		{c.Target, 1, 100},
		{c.MaxAge, 1, api.MaxAge},
		{c.Threads, 1, api.MaxThreads},
		{c.Slots, 1, api.MaxSlots},
		{c.Handles, 0, api.MaxHandles},
		{c.Buffer, 0, c.Eden},
		{c.Workers, 1, api.MaxWorkers},
	}
}
