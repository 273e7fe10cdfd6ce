package spoilt_test

import (
	"testing"

	"triage/api"
	"triage/config"
	"triage/spoilt"
)

// TestConfigs: none of them may be, and none is there twice.
func TestConfigs(t *testing.T) {
	met := map[api.Config]bool{}
	for _, c := range spoilt.Configs(config.Default()) {
		if config.May(c) || met[c] {
			t.Error(c)
		}
		met[c] = true
	}
	if len(met) != 1+4*20+5 {
		t.Errorf("%d of them", len(met))
	}
}

// TestConfigsElse: what the configuration has else stays.
func TestConfigsElse(t *testing.T) {
	c := config.Default()
	c.Errors, c.Rise = 77, 9
	for _, x := range spoilt.Configs(c)[1:] {
		if x.Errors != 77 && x.Rise != 9 {
			t.Error(x)
		}
	}
	if c.Errors != 77 || !config.May(c) {
		t.Errorf("what was handed in is now %v", c)
	}
}
