package config

import "triage/api"

func choiceOf(word string) (yes, known bool) {
	return word == "yes", word == "yes" || word == "no"
}

func choiceWord(yes bool) string {
	if yes {
		return "yes"
	}
	return "no"
}

func policyOf(word string) (policy int, known bool) {
	switch word {
	case "round":
		return api.Round, true
	case "least":
		return api.Least, true
	case "ring":
		return api.Ring, true
	}
	return 0, false
}

func policyWord(policy int) string {
	switch policy {
	case api.Round:
		return "round"
	case api.Least:
		return "least"
	case api.Ring:
		return "ring"
	}
	return ""
}

func zoneOf(word string) string {
	if word == none {
		return ""
	}
	return word
}

func zoneWord(zone string) string {
	if zone == "" {
		return none
	}
	return zone
}
