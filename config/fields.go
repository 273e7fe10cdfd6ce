package config

import "triage/api"

// numberIn tells where c holds the number of that name, so that reading and writing go by one list.
func numberIn(c *api.Config, name string) *int {
	switch name {
	case "interval":
		return &c.Interval
	case "timeout":
		return &c.Timeout
	case "jitter":
		return &c.Jitter
	case "rise":
		return &c.Rise
	case "fall":
		return &c.Fall
	case "panic":
		return &c.Panic
	case "over":
		return &c.Over
	case "errors":
		return &c.Errors
	case "sweep":
		return &c.Sweep
	case "hosts":
		return &c.Hosts
	case "requests":
		return &c.Requests
	case "factor":
		return &c.Factor
	case "fails":
		return &c.Fails
	case "base":
		return &c.Base
	case "eject":
		return &c.Eject
	case "slow":
		return &c.Slow
	case "drain":
		return &c.Drain
	case "hostlimit":
		return &c.HostLimit
	case "poollimit":
		return &c.PoolLimit
	}
	// Of the table's numbers only policy is left.
	return &c.Policy
}

// choiceIn tells where c holds the yes or no of that name.
func choiceIn(c *api.Config, name string) *bool {
	if name == "one" {
		return &c.One
	}
	// Only fallback is left.
	return &c.Fallback
}
