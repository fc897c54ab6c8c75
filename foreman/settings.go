package foreman

import "foreman/api"

// mayBe tells whether there may be such settings.
func mayBe(c api.Config) bool {
	if !within(c.Children, 1, api.MaxSlots) || !within(c.Backlog, 0, api.MaxBacklog) {
		return false
	}
	if !within(c.MaxRequests, 0, api.MaxCount) || !within(c.Timeout, 0, api.MaxCount) {
		return false
	}
	if !c.Dynamic {
		return true
	}
	return within(c.MinSpare, 1, c.Children) && within(c.MaxSpare, c.MinSpare, c.Children)
}

func within(n, least, greatest int) bool { return n >= least && n <= greatest }
