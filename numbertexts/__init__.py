"""Binary numbers and their texts, with fast ways judged for all numbers."""
