"""Sure streams: results of queries that no later row can take back."""
